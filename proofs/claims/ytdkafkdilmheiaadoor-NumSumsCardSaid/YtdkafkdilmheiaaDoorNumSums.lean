/-
  NumSums: one byte that is changed changes the sum; of a text in two pieces it is the same: for every text and every three ints. Conditions: none but those of the given statement (the tables that the row lists hold what the program's text lays).
-/
import Derived.Test.YtdkafkdilmheiaaDoorFrame
import Derived.Test.YtdkafkdilmheiaaDoorMath3
import Derived.Lib.ConvBytes
import Derived.Deep.RegionHeld3
namespace Go.Proofs.YtdkafkdilmheiaaDoor.numSums
open Go.ChangeShapes Go.WideShapes Go.ChangeAt Go.RowKit Go.Lib

set_option maxRecDepth 1000000 in
set_option maxHeartbeats 800000 in
theorem walk_not (s : ByteArray) (a b c : Int) (w : World) (h : 3000 < s.size ∨ s.size = 0 ∨ b % 256 = 0 ∨ a < 0 ∨ c < 0) (ht : TabOK w) : Calls Tryd.prog 6 #[.string s, .int .i64 a, .int .i64 b, .int .i64 c] w fun e w' => e = .returned (.bool true) ∧ Below w.heap.size w w' := by
  have HA := Lib.hid (alive_any w ht)
  clear ht
  by_cases h1 : 3000 < s.size
  · go_enter Tryd.func6, Tryd.ntmps6
    go_wp2_with (go_at_call 11; refine HA.out.mono ?_; rintro e w2 ⟨rfl, hb2⟩)
    go_ret
    exact ⟨rfl, hb2⟩
  · by_cases h2 : s.size = 0
    · have e2 : ((s.size : Int) == 0) = true := by rw [h2]; rfl
      clear h
      go_enter Tryd.func6, Tryd.ntmps6
      go_wp2_with (go_at_call 11; refine HA.out.mono ?_; rintro e w2 ⟨rfl, hb2⟩)
      go_ret
      exact ⟨rfl, hb2⟩
    · have hpos : 0 < s.size := Nat.pos_of_ne_zero h2
      have e2 : ((s.size : Int) == 0) = false := beq_eq_false_iff_ne.2 (by omega)
      by_cases h3 : b % 256 = 0
      · have e3 : (b % 256 == 0) = true := by simpa using h3
        clear h
        go_enter Tryd.func6, Tryd.ntmps6
        go_wp2_with (go_at_call 11; refine HA.out.mono ?_; rintro e w2 ⟨rfl, hb2⟩)
        go_ret
        exact ⟨rfl, hb2⟩
      · have e3 : (b % 256 == 0) = false := by simpa using h3
        by_cases h4 : a < 0
        · clear h h3
          go_enter Tryd.func6, Tryd.ntmps6
          go_wp2_with (go_at_call 11; refine HA.out.mono ?_; rintro e w2 ⟨rfl, hb2⟩)
          go_ret
          exact ⟨rfl, hb2⟩
        · have h5 : c < 0 := by omega
          clear h h3
          go_enter Tryd.func6, Tryd.ntmps6
          go_wp2_with (go_at_call 11; refine HA.out.mono ?_; rintro e w2 ⟨rfl, hb2⟩)
          go_ret
          exact ⟨rfl, hb2⟩

/-- The bytes of a text, one of them changed, as they stand in the block that '[]byte(s)' has made. -/
theorem made {s : ByteArray} {w : World} {i : Nat} {d : UInt8} (hi : i < s.size) :
    let w2 := (bytesWorld w 5 s).setCell ⟨w.heap.size, i, none⟩ (.int .u8 (d.toNat : Int))
    Below w.heap.size w w2 ∧ w2.heap.size = w.heap.size + 1 ∧ ∀ j, j < s.size → w2.cell? ⟨w.heap.size, 0 + j, none⟩ = some (.int .u8 (((s.data.toList.set i d).map fun c => (c.toNat : Int)).getD j 0)) := by
  intro w2
  have hsz : (bytesWorld w 5 s).heap.size = w.heap.size + 1 := bytesWorld_size w 5 s
  have hb : Below w.heap.size w (bytesWorld w 5 s) := ⟨rfl, rfl, rfl, by rw [hsz]; omega, fun k hk => bytesWorld_at_old w 5 s k hk⟩
  refine ⟨hb.setCell (Nat.le_refl _) _, by show (World.setCell _ _ _).heap.size = _; rw [← hsz]; simp [World.setCell], fun j hj => ?_⟩
  rw [Nat.zero_add]
  by_cases e : j = i
  · subst e
    have h1 : w2.cell? ⟨w.heap.size, j, none⟩ = some (.int .u8 (d.toNat : Int)) := by
      have hc := bytesWorld_cell w 5 s j hi
      exact World.cell?_setCell_same (bytesWorld w 5 s) ⟨w.heap.size, j, none⟩ _ hc
    rw [h1]
    simp [List.getD, hj]
  · have h1 : w2.cell? ⟨w.heap.size, j, none⟩ = (bytesWorld w 5 s).cell? ⟨w.heap.size, j, none⟩ := World.cell?_setCell_other (bytesWorld w 5 s) ⟨w.heap.size, i, none⟩ ⟨w.heap.size, j, none⟩ _ (by intro h; injection h with _ h; exact e h.symm)
    rw [h1, bytesWorld_cell w 5 s j hj]
    simp [List.getD, hj, Ne.symm e]

theorem xor_byte (c : UInt8) (b : Int) : ∃ d : UInt8, bits .xor .u8 (c.toNat : Int) (b % 256) = (d.toNat : Int) ∧ (¬ b % 256 = 0 → c ≠ d) := by
  obtain ⟨k, hk⟩ : ∃ k : Nat, b % 256 = k := ⟨(b % 256).toNat, by omega⟩
  have hc := c.toNat_lt
  have hk2 : k < 256 := by omega
  have hx : c.toNat ^^^ k < 256 := Nat.xor_lt_two_pow (n := 8) (by omega) (by omega)
  refine ⟨UInt8.ofNat (c.toNat ^^^ k), ?_, fun h e => ?_⟩
  · rw [hk, u8_xor_nat _ _ (by omega) hk2, UInt8.toNat_ofNat']
    congr 1
    omega
  · have h1 := congrArg UInt8.toNat e
    rw [UInt8.toNat_ofNat', Nat.mod_eq_of_lt (by omega)] at h1
    have h2 := congrArg (fun n => c.toNat ^^^ n) h1
    simp only [← Nat.xor_assoc, Nat.xor_self, Nat.zero_xor] at h2
    omega

theorem crc_one (s : ByteArray) (w : World) (hs : s.size ≤ 9223372036854775807) : Calls Tryd.prog 24 #[.slice (some ⟨w.heap.size, 0, none⟩) 1 1] (w.alloc (.cells #[.string s] 9)) fun e w' => e = .returned (.int .i64 (crcB s.data.toList)) ∧ Below w.heap.size w w' := by
  have hr := (Reads1.built w 9 #[.string s]).mono (B' := (w.alloc (.cells #[.string s] 9)).heap.size) (by simp)
  have h := crc_any _ [s] _ hr (by simp) (by intro x hx; simp at hx; subst hx; exact hs)
  have e1 : flat [s] = s.data.toList := by simp [flat]
  rw [e1] at h
  refine h.mono ?_
  rintro e w' ⟨rfl, rfl⟩
  exact ⟨rfl, (Below.refl _ _).alloc (Nat.le_refl _) _⟩
theorem crc_two (s : ByteArray) (k : Nat) (hk : k ≤ s.size) (w : World) (hs : s.size ≤ 9223372036854775807) : Calls Tryd.prog 24 #[.slice (some ⟨w.heap.size, 0, none⟩) 2 2] (w.alloc (.cells #[.string (s.extract 0 k), .string (s.extract k s.size)] 9)) fun e w' => e = .returned (.int .i64 (crcB s.data.toList)) ∧ Below w.heap.size w w' := by
  have hr := (Reads1.built w 9 #[.string (s.extract 0 k), .string (s.extract k s.size)]).mono (B' := (w.alloc (.cells #[.string (s.extract 0 k), .string (s.extract k s.size)] 9)).heap.size) (by simp)
  have h := crc_any _ [s.extract 0 k, s.extract k s.size] _ hr (by simp) (by intro x hx; simp at hx; rcases hx with rfl | rfl <;> simp <;> omega)
  have e1 : flat [s.extract 0 k, s.extract k s.size] = s.data.toList := by
    have h1 : (s.extract 0 k).data.toList = s.data.toList.take k := by simp
    have h2 : (s.extract k s.size).data.toList = s.data.toList.drop k := by simp; exact List.take_of_length_le (by simp)
    simp only [flat, List.flatMap_cons, List.flatMap_nil, List.append_nil, h1, h2, List.take_append_drop]
  rw [e1] at h
  refine h.mono ?_
  rintro e w' ⟨rfl, rfl⟩
  exact ⟨rfl, (Below.refl _ _).alloc (Nat.le_refl _) _⟩

set_option maxRecDepth 1000000 in
set_option maxHeartbeats 800000 in
theorem walk_sum (s : ByteArray) (a c : Nat) (b : Int) (w : World) (h1 : ¬ 3000 < s.size) (h2 : 0 < s.size) (h3 : ¬ b % 256 = 0) (ha : a ≤ 9223372036854775807) (hc : c ≤ 9223372036854775807) (ht : TabOK w) :
    Calls Tryd.prog 6 #[.string s, .int .i64 a, .int .i64 b, .int .i64 c] w fun e w' => e = .returned (.bool true) ∧ Below w.heap.size w w' := by
  have HT := Lib.hid ht
  have hin := ht.inside
  have e2 : ((s.size : Int) == 0) = false := beq_eq_false_iff_ne.2 (by omega)
  have e3 : (b % 256 == 0) = false := by simpa using h3
  have hcv := Lib.run_convert_string_bytes (P := Tryd.prog) w 9 52 5 s (u := .string) Tryd.underlying9 Tryd.underlying52 Tryd.underlying5
  have hi : a % s.size < s.size := Nat.mod_lt _ h2
  have hk : c % s.size < s.size := Nat.mod_lt _ h2
  have hcell := bytesWorld_cell w 5 s (a % s.size) hi
  have hfree : (bytesWorld w 5 s).frozen? ⟨w.heap.size, a % s.size, none⟩ = false := by
    have h := bytesWorld_at_new w 5 s
    have hz : s.size ≤ (bytesCells w 5 s).size := by
      unfold bytesCells
      simp
    simp [World.frozen?, h]
    omega
  obtain ⟨d, hd, hne⟩ := xor_byte (s.data[a % s.size]'hi) b
  obtain ⟨hb2, hz2, hc2⟩ := made (w := w) (d := d) hi
  have hchg := crcB_change s.data.toList (a % s.size) (s.data[a % s.size]'hi) d (by simp [hi]) (hne h3)
  have HD := Lib.hid hd
  have HCHG := Lib.hid hchg
  clear ht h3 hd hne hchg
  go_enter Tryd.func6, Tryd.ntmps6
  go_wp2_with fail
  rw [HD.out]
  have hz1 : (bytesWorld w 5 s).heap.size = w.heap.size + 1 := bytesWorld_size w 5 s
  generalize (bytesWorld w 5 s).setCell ⟨w.heap.size, a % s.size, none⟩ (.int .u8 (d.toNat : Int)) = w2 at *
  rw [hz1, ← hz2]
  refine (crc_one s w2 (by omega)).mono ?_
  rintro e w3 ⟨rfl, hb3⟩
  have hconv : ∀ W : World, Below w3.drew.heap.size w3.drew W → (convert 52 9 (.slice (some ⟨w.heap.size, 0, none⟩) s.size (grownCap w s.size 0 5))).run Tryd.prog W = .ok (.string (strOfNums ((s.data.toList.set (a % s.size) d).map fun c => (c.toNat : Int)))) W := by
    intro W hW0
    have hW : Below w3.heap.size w3 W := ((Below.refl w3.heap.size w3).drew).trans hW0
    refine run_convert_bytes_arg W 52 5 Tryd.underlying52 Tryd.underlying5 w.heap.size 0 s.size _ _ (by simp) (fun j hj => ?_) 9 Tryd.underlying9
    rw [hW.cell (by have := hb3.size; show w.heap.size < _; omega), hb3.cell (by show w.heap.size < _; omega)]
    exact hc2 j hj
  have hL : (strOfNums ((s.data.toList.set (a % s.size) d).map fun c => (c.toNat : Int))).size ≤ 9223372036854775807 := by
    rw [strOfNums_size]
    simp
    omega
  have hLd : crcB (strOfNums ((s.data.toList.set (a % s.size) d).map fun c => (c.toNat : Int))).data.toList ≠ crcB s.data.toList := by
    rw [strOfNums_data, List.map_map]
    have e : ((fun n : Int => UInt8.ofNat n.toNat) ∘ fun c : UInt8 => (c.toNat : Int)) = id := by funext c; simp
    rw [e, List.map_id]
    exact HCHG.out
  generalize strOfNums ((s.data.toList.set (a % s.size) d).map fun c => (c.toNat : Int)) = t at hconv hL hLd
  have hz3 := hb3.size
  have hT3 : TabOK w3.drew := ((HT.out.below hb2 hin).below hb3 (by omega)).below ((Below.refl w3.heap.size w3).drew) (by omega)
  have HCV := Lib.hid hconv
  have HT3 := Lib.hid hT3
  have hlt := crcB_lt s.data.toList
  clear hconv hT3 hcell hfree hc2
  have hneq : ((crcB t.data.toList : Int) != (crcB s.data.toList : Int)) = true := by simp; exact fun e => hLd (by exact_mod_cast e)
  clear hLd
  have hcrc2 : ∀ w : World, Calls Tryd.prog 24 #[.slice (some ⟨w.heap.size, 0, none⟩) 2 2] (w.alloc (.cells #[.string (s.extract 0 (c % s.size)), .string (s.extract (c % s.size) s.size)] 9)) fun e w' => e = .returned (.int .i64 (crcB s.data.toList)) ∧ Below w.heap.size w w' := fun w => crc_two s (c % s.size) (by omega) w (by omega)
  generalize hx : crcB s.data.toList = X at *
  have HX := Lib.hid hx
  clear hx hcv
  go_wp2_with fail
  have hkk : c % s.size ≤ s.size := by omega
  have hss : s.size ≤ 9223372036854775807 := by omega
  rw [show (c : Int) % (s.size : Int) = ((c % s.size : Nat) : Int) by simp]
  generalize c % s.size = K at *
  have HBW := Lib.hid (hb2.trans (hb3.mono (B' := w.heap.size) (by omega)))
  have hz03 : w.heap.size ≤ w3.heap.size := by omega
  clear HD HCHG HX hb2 hb3 hz3 hz2 hz1 h2 hc ha h1 hin HT
  have hsl1 : ∀ W : World, (Instr.slice 9 (.string s) none (some (.int .i64 (K : Int))) none).run Tryd.prog W = .ok (.string (s.extract 0 K)) W := fun W => by
    have h0 : (0 : Int) ≤ (K : Int) := by omega
    have h1 : (K : Int) ≤ (s.size : Int) := by omega
    go_simp
  have hsl2 : ∀ W : World, (Instr.slice 9 (.string s) (some (.int .i64 (K : Int))) none none).run Tryd.prog W = .ok (.string (s.extract K s.size)) W := fun W => by
    have h0 : (0 : Int) ≤ (K : Int) := by omega
    have h1 : (K : Int) ≤ (s.size : Int) := by omega
    go_simp
  have hS : Below w3.drew.heap.size w3.drew w3.drew := Below.refl _ _
  go_region_held3 (fun w' => Below w3.drew.heap.size w3.drew w' ∧ (convert 52 9 (.slice (some ⟨w.heap.size, 0, none⟩) s.size (grownCap w s.size 0 5))).run Tryd.prog w' = .ok (.string t) w') (first | exact ⟨hS, HCV.out _ hS⟩ | exact ⟨hb4, HCV.out _ hb4⟩ | exact ⟨hb4.alloc hb4.size _, HCV.out _ (hb4.alloc hb4.size _)⟩ | exact ⟨hb5', HCV.out _ hb5'⟩ | exact ⟨hb5'.alloc hb5'.size _, HCV.out _ (hb5'.alloc hb5'.size _)⟩ | exact ⟨hb6', HCV.out _ hb6'⟩) (first | (go_at_call 11; ((with_reducible refine (alive_any _ HT3.out).mono ?_)); rintro e w4 ⟨rfl, hb4⟩) | (go_at_call 24; ((with_reducible refine (crc_one _ _ hL).mono ?_)); rintro e w5 ⟨rfl, hb5⟩; have hb5' := hb4.trans (hb5.mono hb4.size)) | (go_at_call 24; ((with_reducible refine (hcrc2 _).mono ?_)); rintro e w6 ⟨rfl, hb6⟩; have hb6' := hb5'.trans (hb6.mono hb5'.size)))
  go_wp2
  go_ret
  exact ⟨ret_bool (by simp; omega), (HBW.out.drew).trans (hb6'.mono hz03)⟩

theorem walk (s : ByteArray) (_hs : s.size ≤ 9223372036854775807) (a : Int) (ha : IsInt a) (b : Int) (_hb : IsInt b) (c : Int) (hc : IsInt c) (w : World) (ht : TabOK w) :
    Calls Tryd.prog 6 #[.string s, .int .i64 a, .int .i64 b, .int .i64 c] w fun e w' => e = .returned (.bool true) ∧ Below w.heap.size w w' := by
  by_cases h : 3000 < s.size ∨ s.size = 0 ∨ b % 256 = 0 ∨ a < 0 ∨ c < 0
  · exact walk_not s a b c w h ht
  · obtain ⟨i, rfl⟩ : ∃ i : Nat, a = i := ⟨a.toNat, by omega⟩
    obtain ⟨k, rfl⟩ : ∃ k : Nat, c = k := ⟨c.toNat, by omega⟩
    have h1 := ha.2
    have h2 := hc.2
    exact walk_sum s i k b w (by omega) (by omega) (by omega) (by omega) (by omega) ht

theorem contract (H : Type) (enc : TypeId × Value → H) (W : World) (base : Nat) (args : Array Value) (ds gs : List (DataW H)) (before : List MemPlace)
    (hval : ∀ (j : Nat) t v, Tryd.f6.params[j]? = some t → args[j]? = some v → Value.okWide Tryd.prog W .any base t v)
    (hW : DataW.Whole enc Tryd.prog Tryd.f6.params.toList Rows.numSumsSpec.vars false W args.toList ds gs before) (hL : laidMetH Tryd.prog Rows.numSumsRow.laid W) :
    Calls Tryd.prog 6 args W fun e W' => ∃ v, e = .returned v ∧ Rows.numSumsSpec.post enc Tryd.prog Tryd.f6 false true false false W args v W' := by
  have hW' := hW
  obtain ⟨p, q, hA0, hV, rfl, hfz, hnd⟩ := hW
  have hA : DataW.TrodAll enc Tryd.prog W 0 (fun _ => true) true Tryd.f6.params.toList args.toList ds p := hA0
  rw [Tryd.params6] at hA hval
  obtain ⟨v0, vs0, d0, ds0, p0, q0, hargs, rfl, rfl, h0, r00⟩ := trodAll_cons hA
  obtain ⟨v1, vs1, d1, ds1, p1, q1, rfl, rfl, rfl, h1, r01⟩ := trodAll_cons r00
  obtain ⟨v2, vs2, d2, ds2, p2, q2, rfl, rfl, rfl, h2, r02⟩ := trodAll_cons r01
  obtain ⟨v3, vs3, d3, ds3, p3, q3, rfl, rfl, rfl, h3, r03⟩ := trodAll_cons r02
  obtain ⟨rfl, rfl, rfl⟩ := trodAll_nil r03
  obtain rfl : args = #[v0, v1, v2, v3] := by cases args; simp_all
  obtain ⟨rfl, rfl⟩ := trodVars_none hV
  obtain ⟨s0, rfl, rfl, rfl, z0⟩ := Go.ChangeMaps.open_string Tryd.underlying9 (hval 0 9 v0 rfl rfl) h0
  obtain ⟨n1, rfl, rfl, rfl, w1⟩ := open_int Tryd.underlying3 (hval 1 3 v1 rfl rfl) h1
  obtain ⟨n2, rfl, rfl, rfl, w2⟩ := open_int Tryd.underlying3 (hval 2 3 v2 rfl rfl) h2
  obtain ⟨n3, rfl, rfl, rfl, w3⟩ := open_int Tryd.underlying3 (hval 3 3 v3 rfl rfl) h3
  clear hA0
  refine (walk s0 (le_of_maxLen z0) n1 (isInt_of_wf w1) n2 (isInt_of_wf w2) n3 (isInt_of_wf w3) W (tab_ok hL)).mono fun e W' ⟨he, hb⟩ => ?_
  subst he
  exact ⟨_, rfl, law_post hW' rfl rfl (by kernel_rfl) (by kernel_rfl) hb⟩

theorem reads (os : Os) {H : Type} (enc : TypeId × Value → H) : ∃ places, DataW.whole enc Tryd.prog ((laidWorld os).forCall (fun _ _ => 0) ⟨#[], #[.string ByteArray.empty, .int .i64 0, .int .i64 0, .int .i64 0], []⟩).memory Tryd.f6.params.toList Rows.numSumsSpec.vars false (#[.string ByteArray.empty, .int .i64 0, .int .i64 0, .int .i64 0] : Array Value).toList 8 = some ([.lit (.string []), .lit (.int .i64 0), .lit (.int .i64 0), .lit (.int .i64 0)], [], places) :=
  ⟨[], by kernel_rfl⟩

set_option maxRecDepth 100000 in
theorem lifted (os : Os) (started : os.Started) (H : Type) (enc : TypeId × Value → H) (F : Stop.Interp) :
    ReturnsInHanded {} Tryd.checked os 6 .any ((OpenSpec.ofChange Rows.numSumsSpec).preRow enc Tryd.prog Tryd.f6 Rows.numSumsRow.domain false Rows.numSumsRow.laid) (((OpenSpec.ofChange Rows.numSumsSpec).at F).post enc Tryd.prog Tryd.f6 false true false false) := by
  obtain ⟨places, hx⟩ := reads os enc
  refine returnsInHanded_of_row (C := Tryd.checked) (s := OpenSpec.ofChange Rows.numSumsSpec) own started (by kernel_rfl) Tryd.func6
    (witness_row_at (enc := enc) (C := Tryd.checked) false (laidWorld os) #[.string ByteArray.empty, .int .i64 0, .int .i64 0, .int .i64 0] rfl (by kernel_rfl) (by kernel_rfl) (by kernel_rfl)
      (OpenSpec.preRow_of_cond 8 hx (by kernel_rfl) (fun k hk => by cases hk) (by kernel_rfl) (laid_met os _))) ?_
  intro W base args ds gs before hval hW _ _ _ hL _ _
  exact contract H enc W base args ds gs before hval hW hL

theorem said : Rows.NumSumsSaid :=
  OpenClaim.holds_of_cond 6 Tryd.f6 rfl rfl rfl rfl rfl rfl rfl ⟨rfl, rfl, rfl, rfl, rfl⟩ rfl rfl rfl rfl rfl (by kernel_rfl) Tryd.func6 (by kernel_rfl)
    (of_decide_eq_true (by kernel_rfl)) (by unfold Func.isWrapper; first | (rw [if_pos (by decide +kernel)]; kernel_rfl) | (rw [if_neg (by decide +kernel)]; exact ⟨rfl, rfl⟩))
    (fun os started H enc _ F => by rw [OpenClaim.pre_eq_preRow]; exact lifted os started H enc F)

theorem plain (f : FuncId) (fn : Func) (hf : Tryd.pinned.checked.prog.funcNamed "arboretum/arboretumlaw1.NumSums" = some f) (hfn : Tryd.pinned.checked.prog.funcs[f]? = some fn) :
    false = Tryd.pinned.checked.prog.looks [] ∧ ∀ (j : Nat) t, fn.params[j]? = some t → Tryd.pinned.checked.prog.wantsStandIn t = false := by
  obtain rfl : f = 6 := Option.some.inj ((show Tryd.prog.funcNamed "arboretum/arboretumlaw1.NumSums" = some 6 by kernel_rfl).symm.trans hf) |>.symm
  obtain rfl : fn = Tryd.f6 := (Option.some.inj (Tryd.func6.symm.trans hfn)).symm
  refine ⟨by kernel_rfl, fun j t ht => ?_⟩
  rw [Tryd.params6] at ht
  have hm : t ∈ [9, 3, 3, 3] := by simpa using Array.mem_of_getElem? ht
  have hall : ([9, 3, 3, 3].all fun u => !Tryd.prog.wantsStandIn u) = true := by kernel_rfl
  exact (show Tryd.prog.wantsStandIn t = false by simpa using List.all_eq_true.1 hall t hm)

theorem card : Rows.NumSumsCardSaid :=
  Claim7.holds_tied_plain_at .later [] _ _ _ _ said (fun _ h => by cases h) (by kernel_rfl) (fun _ h => by cases h) numSums_row_tie rfl ⟨rfl, rfl⟩ (by kernel_rfl) rfl plain (by kernel_rfl)

end Go.Proofs.YtdkafkdilmheiaaDoor.numSums
