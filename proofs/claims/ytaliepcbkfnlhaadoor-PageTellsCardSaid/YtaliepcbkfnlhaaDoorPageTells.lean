/-
  PageTells: Seal and Open answer what the document's own answers do, for every number, content and bytes, among them a page's bytes changed at a place under a sum that is right. Conditions: the variables that the row lists are laid as its card says.
-/
import Derived.Test.YtaliepcbkfnlhaaDoorS7
import Derived.Test.YtaliepcbkfnlhaaDoorS6
import Derived.Test.YtaliepcbkfnlhaaDoorXB
import Derived.Test.YtaliepcbkfnlhaaDoorFrameL
namespace Go.Proofs.YtaliepcbkfnlhaaDoor.pageTells
open Go.RowKit Go.Lib Go.ChangeShapes Go.WideShapes Go.ChangeAt

/-- What both Seals tell. -/
theorem both_seal (id kind next : Int) (s : ByteArray) (hi : IsInt id) (hk : IsInt kind) (hn : IsInt next) (hs : s.size ≤ 3000) :
    ∃ (Z : ByteArray) (E : Int), (Z.size = 256 ∨ ((Z.size : Int) == 256) = false) ∧ (∀ w : World, Calls Tryd.prog 7 #[.int .i64 id, .agg #[.int .i64 kind, .int .i64 next, .string s]] w fun e w' => e = .returned (.tuple #[.string Z, .int .i64 E]) ∧ Below w.heap.size w w') ∧
      (∀ w : World, Calls Tryd.prog 8 #[.int .i64 id, .agg #[.int .i64 kind, .int .i64 next, .string s]] w fun e w' => e = .returned (.tuple #[.string Z, .int .i64 E]) ∧ Below w.heap.size w w') := by
  refine ⟨⟨(sealB id kind next s.data.toList).toArray⟩, sealE id kind next s.size, ?_, fun w => seal_any id kind next s w hi hk hn (by omega), fun w => refSeal_any id kind next s w (by omega)⟩
  by_cases h : (⟨(sealB id kind next s.data.toList).toArray⟩ : ByteArray).size = 256
  · exact .inl h
  · exact .inr (beq_eq_false_iff_ne.2 (by omega))
/-- What both Opens tell. -/
theorem both_open (id : Int) (b : ByteArray) (hi : IsInt id) :
    ∃ (K N E : Int) (S : ByteArray), (∀ w : World, Calls Tryd.prog 11 #[.int .i64 id, .string b] w fun e w' => e = .returned (.tuple #[.agg #[.int .i64 K, .int .i64 N, .string S], .int .i64 E]) ∧ Below w.heap.size w w') ∧
      (∀ w : World, Calls Tryd.prog 12 #[.int .i64 id, .string b] w fun e w' => e = .returned (.tuple #[.agg #[.int .i64 K, .int .i64 N, .string S], .int .i64 E]) ∧ Below w.heap.size w w') :=
  ⟨openK id b.data.toList, openN id b.data.toList, openE id b.data.toList, ⟨(openS id b.data.toList).toArray⟩, fun w => open_any id b w, fun w => refOpen_any id b w hi⟩

set_option maxRecDepth 100000 in
set_option maxHeartbeats 4000000 in
theorem walk_long (w : World) (id k x : Int) (s b : ByteArray) (a y : Int) (own : Bool) (h : 3000 < s.size ∨ s.size ≤ 3000 ∧ 3000 < b.size) :
    Calls Tryd.prog 3 #[.int .i64 id, .agg #[.int .i64 k, .int .i64 x, .string s], .string b, .int .i64 a, .int .i64 y, .bool own] w fun e w' => e = .returned (.bool true) ∧ Below w.heap.size w w' := by
  rcases h with h | ⟨h, h2⟩
  all_goals
    go_enter Tryd.func3, Tryd.ntmps3
    go_wp2_with (go_at_call 6; refine (alive_walk _).mono ?_; rintro e w2 ⟨rfl, hb2⟩)
    go_ret
    exact ⟨rfl, ((Below.refl _ _).alloc (Nat.le_refl _) _).trans (hb2.mono (by simp))⟩

set_option maxRecDepth 100000 in
set_option maxHeartbeats 4000000 in
theorem walk_plain (w : World) (id k x : Int) (s b Z : ByteArray) (a y E0 : Int) (own : Bool) (hi : IsInt id) (h1 : s.size ≤ 3000) (h2 : b.size ≤ 3000)
    (hS : ∀ w : World, Calls Tryd.prog 7 #[.int .i64 id, .agg #[.int .i64 k, .int .i64 x, .string s]] w fun e w' => e = .returned (.tuple #[.string Z, .int .i64 E0]) ∧ Below w.heap.size w w')
    (hR : ∀ w : World, Calls Tryd.prog 8 #[.int .i64 id, .agg #[.int .i64 k, .int .i64 x, .string s]] w fun e w' => e = .returned (.tuple #[.string Z, .int .i64 E0]) ∧ Below w.heap.size w w')
    (hZ : own = false ∨ own = true ∧ ((Z.size : Int) == 256) = false) :
    Calls Tryd.prog 3 #[.int .i64 id, .agg #[.int .i64 k, .int .i64 x, .string s], .string b, .int .i64 a, .int .i64 y, .bool own] w fun e w' => e = .returned (.bool true) ∧ Below w.heap.size w w' := by
  obtain ⟨K, N, E, S, hO1, hO2⟩ := both_open id b hi
  have HS := Lib.hid hS
  have HR := Lib.hid hR
  have HO1 := Lib.hid hO1
  have HO2 := Lib.hid hO2
  have hH : Has (w.alloc (.cells #[.int .i64 k, .int .i64 x, .string s] 23)) w.heap.size 23 #[.int .i64 k, .int .i64 x, .string s] := Has.made w _ _
  clear hS hR hO1 hO2 hi
  rcases hZ with rfl | ⟨rfl, hZ⟩
  all_goals
    go_enter Tryd.func3, Tryd.ntmps3
    go_wp2_with fail
    refine (HS.out _).mono ?_
    rintro e w1 ⟨rfl, hb1⟩
    have hs1 := hb1.size
    simp at hs1
    have hH1 := hH.below hb1 hH.inside
    have r0 : w1.cell? ⟨w.heap.size, 0, none⟩ = some (.int .i64 k) := hH1.cell 0
    have r1 : w1.cell? ⟨w.heap.size, 1, none⟩ = some (.int .i64 x) := hH1.cell 1
    have r2 : w1.cell? ⟨w.heap.size, 2, none⟩ = some (.string s) := hH1.cell 2
    go_wp2_with fail
    refine (HR.out _).mono ?_
    rintro e wa ⟨rfl, hba⟩
    have hsa := hba.size
    have hza : w.heap.size ≤ wa.heap.size := by omega
    have HBa := Lib.hid ((((Below.refl _ _).alloc (Nat.le_refl _) _).trans (hb1.mono (B' := w.heap.size) (by simp))).trans (hba.mono (B' := w.heap.size) (by omega)))
    clear r0 r1 r2 hH1 hb1 hba hH
    go_wp2_with fail
    refine (HO1.out _).mono ?_
    rintro e wb ⟨rfl, hbb⟩
    have hsb := hbb.size
    go_wp2_with fail
    refine (HO2.out _).mono ?_
    rintro e wc ⟨rfl, hbc⟩
    have hsc := hbc.size
    simp at hsc
    have hG : Has (wc.alloc (.cells #[.int .i64 K, .int .i64 N, .string S] 23)) wb.heap.size 23 #[.int .i64 K, .int .i64 N, .string S] := ((Has.made wb _ _).below hbc (by simp)).alloc _
    have hK : Has (wc.alloc (.cells #[.int .i64 K, .int .i64 N, .string S] 23)) wc.heap.size 23 #[.int .i64 K, .int .i64 N, .string S] := Has.made wc _ _
    go_wp2_with fail
    refine (alive_walk _).mono ?_
    rintro e wd ⟨rfl, hbd⟩
    have hG2 := hG.below hbd hG.inside
    have hK2 := hK.below hbd hK.inside
    have r0 : wd.cell? ⟨wb.heap.size, 0, none⟩ = some (.int .i64 K) := hG2.cell 0
    have r1 : wd.cell? ⟨wb.heap.size, 1, none⟩ = some (.int .i64 N) := hG2.cell 1
    have r2 : wd.cell? ⟨wb.heap.size, 2, none⟩ = some (.string S) := hG2.cell 2
    have k0 : wd.cell? ⟨wc.heap.size, 0, none⟩ = some (.int .i64 K) := hK2.cell 0
    have k1 : wd.cell? ⟨wc.heap.size, 1, none⟩ = some (.int .i64 N) := hK2.cell 1
    have k2 : wd.cell? ⟨wc.heap.size, 2, none⟩ = some (.string S) := hK2.cell 2
    have hC1 := HBa.out.trans (hbb.mono hza)
    have hC2 := (hC1.alloc (by omega) (.cells #[.int .i64 K, .int .i64 N, .string S] 23)).trans (hbc.mono (B' := w.heap.size) (by simp; omega))
    have HC3 := Lib.hid ((hC2.alloc (by omega) (.cells #[.int .i64 K, .int .i64 N, .string S] 23)).trans (hbd.mono (B' := w.heap.size) (by simp; omega)))
    clear hG hK hG2 hK2 hC1 hC2 hbb hbc hbd
    go_wp2_with fail
    go_ret
    exact ⟨rfl, HC3.out⟩

set_option maxRecDepth 100000 in
set_option maxHeartbeats 4000000 in
theorem walk_own (w : World) (id k x : Int) (s b Z : ByteArray) (a y E0 : Int) (hi : IsInt id) (h1 : s.size ≤ 3000) (h2 : b.size ≤ 3000)
    (hS : ∀ w : World, Calls Tryd.prog 7 #[.int .i64 id, .agg #[.int .i64 k, .int .i64 x, .string s]] w fun e w' => e = .returned (.tuple #[.string Z, .int .i64 E0]) ∧ Below w.heap.size w w')
    (hR : ∀ w : World, Calls Tryd.prog 8 #[.int .i64 id, .agg #[.int .i64 k, .int .i64 x, .string s]] w fun e w' => e = .returned (.tuple #[.string Z, .int .i64 E0]) ∧ Below w.heap.size w w')
    (hX : Z.size = 256) :
    Calls Tryd.prog 3 #[.int .i64 id, .agg #[.int .i64 k, .int .i64 x, .string s], .string b, .int .i64 a, .int .i64 y, .bool true] w fun e w' => e = .returned (.bool true) ∧ Below w.heap.size w w' := by
  obtain ⟨i, hai⟩ : ∃ i : Nat, a % 256 = i := ⟨(a % 256).toNat, by omega⟩
  have hiX : i < Z.size := by omega
  have hand : bits .and .i64 a 255 = (i : Int) := by rw [i64_and255, hai]
  obtain ⟨d, hd, -⟩ := xor_byte (Z.data[i]'hiX) y
  have HD := Lib.hid hd
  have hYl : (((Z.data.toList.set i d).take 252)).length = 252 := by simp; omega
  obtain ⟨Y, hY⟩ : ∃ Y : ByteArray, strOfNums (((Z.data.toList.set i d).take 252).map fun c => (c.toNat : Int)) = Y := ⟨_, rfl⟩
  have hYz : Y.size = 252 := by
    rw [← hY, strOfNums_size, List.length_map, hYl]
  have hcl := crcB_lt Y.data.toList
  have hc := fun w => refCrc_any Y w (by omega)
  generalize crcB Y.data.toList = c at hc hcl
  have hf := fun w => refFix_nat c 4 w (by omega) (by omega) (by omega)
  rw [if_pos (show c < 2 ^ (8 * 4) by omega), if_pos (show c < 2 ^ (8 * 4) by omega)] at hf
  have hCz : (⟨(leb 4 c).toArray⟩ : ByteArray).size = 4 := by show Array.size _ = 4; rw [List.size_toArray, leb_length]
  generalize (⟨(leb 4 c).toArray⟩ : ByteArray) = C at hf hCz
  obtain ⟨K, N, E, S, hO1, hO2⟩ := both_open id (Y ++ C) hi
  have HS := Lib.hid hS
  have HR := Lib.hid hR
  have HO1 := Lib.hid hO1
  have HO2 := Lib.hid hO2
  have HY := Lib.hid hY
  have HC := Lib.hid hc
  have HF := Lib.hid hf
  have hH : Has (w.alloc (.cells #[.int .i64 k, .int .i64 x, .string s] 23)) w.heap.size 23 #[.int .i64 k, .int .i64 x, .string s] := Has.made w _ _
  have hlen : (Z.size : Int) = 256 := by omega
  clear hS hR hO1 hO2 hi hY hc hf hd hai
  go_enter Tryd.func3, Tryd.ntmps3
  go_wp2_with fail
  refine (HS.out _).mono ?_
  rintro e w1 ⟨rfl, hb1⟩
  have hs1 := hb1.size
  simp at hs1
  have hH1 := hH.below hb1 hH.inside
  have r0 : w1.cell? ⟨w.heap.size, 0, none⟩ = some (.int .i64 k) := hH1.cell 0
  have r1 : w1.cell? ⟨w.heap.size, 1, none⟩ = some (.int .i64 x) := hH1.cell 1
  have r2 : w1.cell? ⟨w.heap.size, 2, none⟩ = some (.string s) := hH1.cell 2
  go_wp2_with fail
  refine (HR.out _).mono ?_
  rintro e wa ⟨rfl, hba⟩
  have hsa := hba.size
  have hza : w.heap.size ≤ wa.heap.size := by omega
  have HBa := Lib.hid ((((Below.refl _ _).alloc (Nat.le_refl _) _).trans (hb1.mono (B' := w.heap.size) (by simp))).trans (hba.mono (B' := w.heap.size) (by omega)))
  clear r0 r1 r2 hH1 hb1 hba hH
  have hcv := Lib.run_convert_string_bytes (P := Tryd.prog) wa 9 28 5 Z (u := .string) Tryd.underlying9 Tryd.underlying28 Tryd.underlying5
  have hcell := bytesWorld_cell wa 5 Z i hiX
  have hfree : (bytesWorld wa 5 Z).frozen? ⟨wa.heap.size, i, none⟩ = false := by
    have h := bytesWorld_at_new wa 5 Z
    have hz : Z.size ≤ (bytesCells wa 5 Z).size := by
      unfold bytesCells
      simp
    simp [World.frozen?, h]
    omega
  obtain ⟨hbM, hzM, hcM⟩ := made (w := wa) (d := d) hiX
  have hi256 : (i : Int) < 256 := by omega
  have hcap := grownCap_ge wa 256 0 5
  rw [hX] at hcv
  generalize grownCap wa 256 0 5 = cap at hcv hcap
  have HM := Lib.hid (And.intro hbM (And.intro hzM hcM))
  clear hbM hzM hcM
  go_wp2_with fail
  have e4 : Z.data[i]?.getD 0 = Z.data[i]'hiX := by rw [Array.getElem?_eq_getElem hiX]; rfl
  rw [e4, HD.out]
  obtain ⟨hbM, hzM, hcM⟩ := HM.out
  have HB6 := Lib.hid (HBa.out.trans (hbM.mono hza))
  have hz6 : w.heap.size ≤ ((bytesWorld wa 5 Z).setCell ⟨wa.heap.size, i, none⟩ (.int .u8 (d.toNat : Int))).heap.size := by rw [hzM]; omega
  have hin : wa.heap.size < ((bytesWorld wa 5 Z).setCell ⟨wa.heap.size, i, none⟩ (.int .u8 (d.toNat : Int))).heap.size := by rw [hzM]; omega
  clear hbM hzM hcell hfree hcv HM
  generalize (bytesWorld wa 5 Z).setCell ⟨wa.heap.size, i, none⟩ (.int .u8 (d.toNat : Int)) = w6 at *
  have hconv : ∀ W : World, Below w6.heap.size w6 W → (convert 28 9 (.slice (some ⟨wa.heap.size, 0, none⟩) 252 cap)).run Tryd.prog W = .ok (.string Y) W := by
    intro W hW
    have h := run_convert_bytes_arg W 28 5 Tryd.underlying28 Tryd.underlying5 wa.heap.size 0 252 cap (((Z.data.toList.set i d).take 252).map fun c => (c.toNat : Int)) (by rw [List.length_map, hYl]) (fun j hj => by
      rw [hW.cell hin, hcM j (by omega)]
      rw [List.map_take]
      simp only [List.getD, List.getElem?_take, if_pos hj]) 9 Tryd.underlying9
    rw [HY.out] at h
    exact h
  have HCV := Lib.hid hconv
  have hconv0 := hconv w6 (Below.refl _ _)
  clear hconv hcM
  rw [hconv0]
  go_wp2_with fail
  refine (HC.out _).mono ?_
  rintro e w7 ⟨rfl, rfl⟩
  go_wp2_with fail
  refine (HF.out _).mono ?_
  rintro e w8 ⟨rfl, hb8⟩
  have hconv8 := HCV.out w8 hb8
  have HBa := Lib.hid (HB6.out.trans (hb8.mono hz6))
  have hza : w.heap.size ≤ w8.heap.size := by have := hb8.size; omega
  clear HB6 hz6 hin hconv0 hb8
  go_wp2_with fail
  refine (HO1.out _).mono ?_
  rintro e wb ⟨rfl, hbb⟩
  have hsb := hbb.size
  go_wp2_with fail
  refine (HO2.out _).mono ?_
  rintro e wc ⟨rfl, hbc⟩
  have hsc := hbc.size
  simp at hsc
  have hG : Has (wc.alloc (.cells #[.int .i64 K, .int .i64 N, .string S] 23)) wb.heap.size 23 #[.int .i64 K, .int .i64 N, .string S] := ((Has.made wb _ _).below hbc (by simp)).alloc _
  have hK : Has (wc.alloc (.cells #[.int .i64 K, .int .i64 N, .string S] 23)) wc.heap.size 23 #[.int .i64 K, .int .i64 N, .string S] := Has.made wc _ _
  go_wp2_with fail
  refine (alive_walk _).mono ?_
  rintro e wd ⟨rfl, hbd⟩
  have hG2 := hG.below hbd hG.inside
  have hK2 := hK.below hbd hK.inside
  have r0 : wd.cell? ⟨wb.heap.size, 0, none⟩ = some (.int .i64 K) := hG2.cell 0
  have r1 : wd.cell? ⟨wb.heap.size, 1, none⟩ = some (.int .i64 N) := hG2.cell 1
  have r2 : wd.cell? ⟨wb.heap.size, 2, none⟩ = some (.string S) := hG2.cell 2
  have k0 : wd.cell? ⟨wc.heap.size, 0, none⟩ = some (.int .i64 K) := hK2.cell 0
  have k1 : wd.cell? ⟨wc.heap.size, 1, none⟩ = some (.int .i64 N) := hK2.cell 1
  have k2 : wd.cell? ⟨wc.heap.size, 2, none⟩ = some (.string S) := hK2.cell 2
  have hC1 := HBa.out.trans (hbb.mono hza)
  have hC2 := (hC1.alloc (by omega) (.cells #[.int .i64 K, .int .i64 N, .string S] 23)).trans (hbc.mono (B' := w.heap.size) (by simp; omega))
  have HC3 := Lib.hid ((hC2.alloc (by omega) (.cells #[.int .i64 K, .int .i64 N, .string S] 23)).trans (hbd.mono (B' := w.heap.size) (by simp; omega)))
  clear hG hK hG2 hK2 hC1 hC2 hbb hbc hbd
  go_wp2_with fail
  go_ret
  exact ⟨rfl, HC3.out⟩

theorem walk (w : World) (id : Int) (hi : IsInt id) (k x : Int) (s : ByteArray) (hk : IsInt k) (hx : IsInt x) (hs : s.size ≤ 9223372036854775807) (b : ByteArray) (_hb : b.size ≤ 9223372036854775807) (a : Int) (_ha : IsInt a) (y : Int) (_hy : IsInt y) (own : Bool) :
    Calls Tryd.prog 3 #[.int .i64 id, .agg #[.int .i64 k, .int .i64 x, .string s], .string b, .int .i64 a, .int .i64 y, .bool own] w fun e w' => e = .returned (.bool true) ∧ Below w.heap.size w w' := by
  by_cases h1 : s.size ≤ 3000
  · by_cases h2 : b.size ≤ 3000
    · obtain ⟨Z, E0, hZ, hS, hR⟩ := both_seal id k x s hi hk hx h1
      cases own with
      | false => exact walk_plain w id k x s b Z a y E0 false hi h1 h2 hS hR (.inl rfl)
      | true =>
        rcases hZ with hZ | hZ
        · exact walk_own w id k x s b Z a y E0 hi h1 h2 hS hR hZ
        · exact walk_plain w id k x s b Z a y E0 true hi h1 h2 hS hR (.inr ⟨rfl, hZ⟩)
    · exact walk_long w id k x s b a y own (.inr ⟨h1, by omega⟩)
  · exact walk_long w id k x s b a y own (.inl (by omega))

theorem contract (H : Type) (enc : TypeId × Value → H) (W : World) (base : Nat) (args : Array Value) (ds gs : List (DataW H)) (before : List MemPlace)
    (hval : ∀ (j : Nat) t v, Tryd.f3.params[j]? = some t → args[j]? = some v → Value.okWide Tryd.prog W .any base t v)
    (hW : DataW.Whole enc Tryd.prog Tryd.f3.params.toList Rows.pageTellsSpec.vars false W args.toList ds gs before) (hL : laidMetH Tryd.prog Rows.pageTellsRow.laid W) :
    Calls Tryd.prog 3 args W fun e W' => ∃ v, e = .returned v ∧ Rows.pageTellsSpec.post enc Tryd.prog Tryd.f3 false true false false W args v W' := by
  have hW' := hW
  obtain ⟨p, q, hA0, hV, rfl, hfz, hnd⟩ := hW
  have hA : DataW.TrodAll enc Tryd.prog W 0 (fun _ => true) true Tryd.f3.params.toList args.toList ds p := hA0
  rw [Tryd.params3] at hA hval
  obtain ⟨v0, vs0, d0, ds0, p0, q0, hargs, rfl, rfl, h0, r00⟩ := trodAll_cons hA
  obtain ⟨v1, vs1, d1, ds1, p1, q1, rfl, rfl, rfl, h1, r01⟩ := trodAll_cons r00
  obtain ⟨v2, vs2, d2, ds2, p2, q2, rfl, rfl, rfl, h2, r02⟩ := trodAll_cons r01
  obtain ⟨v3, vs3, d3, ds3, p3, q3, rfl, rfl, rfl, h3, r03⟩ := trodAll_cons r02
  obtain ⟨v4, vs4, d4, ds4, p4, q4, rfl, rfl, rfl, h4, r04⟩ := trodAll_cons r03
  obtain ⟨v5, vs5, d5, ds5, p5, q5, rfl, rfl, rfl, h5, r05⟩ := trodAll_cons r04
  obtain ⟨rfl, rfl, rfl⟩ := trodAll_nil r05
  obtain rfl : args = #[v0, v1, v2, v3, v4, v5] := by cases args; simp_all
  obtain ⟨rfl, rfl⟩ := trodVars_none hV
  obtain ⟨n0, rfl, rfl, rfl, w0⟩ := open_int Tryd.underlying3 (hval 0 3 v0 rfl rfl) h0
  obtain ⟨k1, x1, s1, rfl, rfl, rfl, a1, b1, z1⟩ := open_page (hval 1 23 v1 rfl rfl) h1
  obtain ⟨s2, rfl, rfl, rfl, z2⟩ := Go.ChangeMaps.open_string Tryd.underlying9 (hval 2 9 v2 rfl rfl) h2
  obtain ⟨n3, rfl, rfl, rfl, w3⟩ := open_int Tryd.underlying3 (hval 3 3 v3 rfl rfl) h3
  obtain ⟨n4, rfl, rfl, rfl, w4⟩ := open_int Tryd.underlying3 (hval 4 3 v4 rfl rfl) h4
  obtain ⟨b5, rfl, rfl, rfl⟩ := open_bool Tryd.underlying4 (hval 5 4 v5 rfl rfl) h5
  clear hA0
  refine (walk W n0 (isInt_of_wf w0) k1 x1 s1 (isInt_of_wf a1) (isInt_of_wf b1) (le_of_maxLen z1) s2 (le_of_maxLen z2) n3 (isInt_of_wf w3) n4 (isInt_of_wf w4) b5).mono fun e W' ⟨he, hb⟩ => ?_
  subst he
  exact ⟨_, rfl, law_post hW' rfl rfl (by kernel_rfl) (by kernel_rfl) hb⟩

theorem reads (os : Os) {H : Type} (enc : TypeId × Value → H) : ∃ places, DataW.whole enc Tryd.prog ((laidWorld os).forCall (fun _ _ => 0) ⟨#[], #[.int .i64 0, .agg #[.int .i64 0, .int .i64 0, .string ByteArray.empty], .string ByteArray.empty, .int .i64 0, .int .i64 0, .bool false], []⟩).memory Tryd.f3.params.toList Rows.pageTellsSpec.vars false (#[.int .i64 0, .agg #[.int .i64 0, .int .i64 0, .string ByteArray.empty], .string ByteArray.empty, .int .i64 0, .int .i64 0, .bool false] : Array Value).toList 8 = some ([.lit (.int .i64 0), .agg [.lit (.int .i64 0), .lit (.int .i64 0), .lit (.string [])], .lit (.string []), .lit (.int .i64 0), .lit (.int .i64 0), .lit (.bool false)], [], places) :=
  ⟨[], by kernel_rfl⟩

set_option maxRecDepth 100000 in
theorem lifted (os : Os) (started : os.Started) (H : Type) (enc : TypeId × Value → H) (F : Stop.Interp) :
    ReturnsInHanded {} Tryd.checked os 3 .any ((OpenSpec.ofChange Rows.pageTellsSpec).preRow enc Tryd.prog Tryd.f3 Rows.pageTellsRow.domain false Rows.pageTellsRow.laid) (((OpenSpec.ofChange Rows.pageTellsSpec).at F).post enc Tryd.prog Tryd.f3 false true false false) := by
  obtain ⟨places, hx⟩ := reads os enc
  refine returnsInHanded_of_row (C := Tryd.checked) (s := OpenSpec.ofChange Rows.pageTellsSpec) own started (by kernel_rfl) Tryd.func3
    (witness_row_at (enc := enc) (C := Tryd.checked) false (laidWorld os) #[.int .i64 0, .agg #[.int .i64 0, .int .i64 0, .string ByteArray.empty], .string ByteArray.empty, .int .i64 0, .int .i64 0, .bool false] (laid_os os) (by kernel_rfl) (by kernel_rfl) (by kernel_rfl)
      (OpenSpec.preRow_of_cond 8 hx (by kernel_rfl) (fun k hk => by cases hk) (by kernel_rfl) (laid_met os _))) ?_
  intro W base args ds gs before hval hW _ _ _ hL _ _
  exact contract H enc W base args ds gs before hval hW hL

theorem said : Rows.PageTellsSaid :=
  OpenClaim.holds_of_cond 3 Tryd.f3 rfl rfl rfl rfl rfl rfl rfl ⟨rfl, rfl, rfl, rfl, rfl⟩ rfl rfl rfl rfl rfl (by kernel_rfl) Tryd.func3 (by kernel_rfl)
    (of_decide_eq_true (by kernel_rfl)) (by unfold Func.isWrapper; first | (rw [if_pos (by decide +kernel)]; kernel_rfl) | (rw [if_neg (by decide +kernel)]; exact ⟨rfl, rfl⟩))
    (fun os started H enc _ F => by rw [OpenClaim.pre_eq_preRow]; exact lifted os started H enc F)

theorem plain (f : FuncId) (fn : Func) (hf : Tryd.pinned.checked.prog.funcNamed "arboretum/arboretumlaw4.PageTells" = some f) (hfn : Tryd.pinned.checked.prog.funcs[f]? = some fn) :
    false = Tryd.pinned.checked.prog.looks [] ∧ ∀ (j : Nat) t, fn.params[j]? = some t → Tryd.pinned.checked.prog.wantsStandIn t = false := by
  obtain rfl : f = 3 := Option.some.inj ((show Tryd.prog.funcNamed "arboretum/arboretumlaw4.PageTells" = some 3 by kernel_rfl).symm.trans hf) |>.symm
  obtain rfl : fn = Tryd.f3 := (Option.some.inj (Tryd.func3.symm.trans hfn)).symm
  refine ⟨by kernel_rfl, fun j t ht => ?_⟩
  rw [Tryd.params3] at ht
  have hm : t ∈ [3, 23, 9, 3, 3, 4] := by simpa using Array.mem_of_getElem? ht
  have hall : ([3, 23, 9, 3, 3, 4].all fun u => !Tryd.prog.wantsStandIn u) = true := by kernel_rfl
  exact (show Tryd.prog.wantsStandIn t = false by simpa using List.all_eq_true.1 hall t hm)

theorem card : Rows.PageTellsCardSaid :=
  Claim7.holds_tied_plain_at .later [] _ _ _ _ said (fun _ h => by cases h) (by kernel_rfl) (fun _ h => by cases h) pageTells_row_tie rfl ⟨rfl, rfl⟩ (by kernel_rfl) rfl plain (by kernel_rfl)

end Go.Proofs.YtaliepcbkfnlhaaDoor.pageTells
