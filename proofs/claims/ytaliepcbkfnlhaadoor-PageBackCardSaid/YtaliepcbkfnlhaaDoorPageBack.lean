/-
  PageBack: what is sealed is opened as it was; as another number, cut short or with one byte changed it is not. For every number, content, place and byte. Conditions: the variables that the row lists are laid as its card says.
-/
import Derived.Test.YtaliepcbkfnlhaaDoorS7
import Derived.Test.YtaliepcbkfnlhaaDoorXB
import Derived.Test.YtaliepcbkfnlhaaDoorFrameL
namespace Go.Proofs.YtaliepcbkfnlhaaDoor.pageBack
open Go.RowKit Go.Lib Go.ChangeShapes Go.WideShapes Go.ChangeAt

/-- What a content that does not fit tells. -/
theorem seal_not (id kind next : Int) (s : ByteArray) (hi : IsInt id) (hk : IsInt kind) (hn : IsInt next) (hs : s.size ≤ 300) (h : ¬ (SealOK id kind next ∧ s.size ≤ 240)) :
    ∃ E : Int, (E = 1 ∨ E = 2) ∧ ∀ w : World, Calls Tryd.prog 7 #[.int .i64 id, .agg #[.int .i64 kind, .int .i64 next, .string s]] w fun e w' => e = .returned (.tuple #[.string ⟨#[]⟩, .int .i64 E]) ∧ Below w.heap.size w w' := by
  have hl : s.data.toList.length = s.size := by simp
  refine ⟨sealE id kind next s.size, ?_, fun w => ?_⟩
  · unfold sealE
    by_cases h1 : SealOK id kind next
    · rw [if_pos h1, if_neg (fun h2 => h ⟨h1, h2⟩)]
      exact .inr rfl
    · rw [if_neg h1]
      exact .inl rfl
  · have r := seal_any id kind next s w hi hk hn (by omega)
    rw [sealB, hl, if_neg h] at r
    exact r

/-- What fits: its bytes, and what opening tells of them. -/
theorem seal_fits (id kind next : Nat) (s : ByteArray) (hok : SealOK id kind next) (hs : s.size ≤ 240) :
    ∃ X : ByteArray, X.size = 256 ∧ (∀ w : World, Calls Tryd.prog 7 #[.int .i64 id, .agg #[.int .i64 kind, .int .i64 next, .string s]] w fun e w' => e = .returned (.tuple #[.string X, .int .i64 0]) ∧ Below w.heap.size w w') ∧
      (∀ w : World, Calls Tryd.prog 11 #[.int .i64 id, .string X] w fun e w' => e = .returned (.tuple #[.agg #[.int .i64 kind, .int .i64 next, .string s], .int .i64 0]) ∧ Below w.heap.size w w') ∧
      (∀ (j : Int) (w : World), j ≠ id → Calls Tryd.prog 11 #[.int .i64 j, .string X] w fun e w' => e = .returned (.tuple #[.agg #[.int .i64 0, .int .i64 0, .string ⟨#[]⟩], .int .i64 4]) ∧ Below w.heap.size w w') ∧
      (∀ (i : Nat) (hi : i < X.size) (d : UInt8) (w : World), X.data[i]'hi ≠ d → Calls Tryd.prog 11 #[.int .i64 id, .string (strOfNums ((X.data.toList.set i d).map fun c => (c.toNat : Int)))] w fun e w' => e = .returned (.tuple #[.agg #[.int .i64 0, .int .i64 0, .string ⟨#[]⟩], .int .i64 6]) ∧ Below w.heap.size w w') := by
  have hl : s.data.toList.length = s.size := by simp
  have hl2 : s.data.toList.length ≤ 240 := by omega
  have hok' := hok
  obtain ⟨a, b, c, d, f, g⟩ := hok'
  have hX : (⟨(pageB kind id next s.data.toList).toArray⟩ : ByteArray).data.toList = pageB kind id next s.data.toList := by simp
  refine ⟨⟨(pageB kind id next s.data.toList).toArray⟩, ?_, fun w => ?_, fun w => ?_, fun j w hj => ?_, fun i hi y w hy => ?_⟩
  · show Array.size _ = 256
    rw [List.size_toArray, pageB_len hl2]
  · have r := seal_any id kind next s w (by unfold IsInt; omega) (by unfold IsInt; omega) (by unfold IsInt; omega) (by omega)
    rw [sealB, sealE, hl, if_pos ⟨hok, hs⟩, if_pos hok, if_pos hs] at r
    exact r
  · have r := open_any id ⟨(pageB kind id next s.data.toList).toArray⟩ w
    rw [hX, page_open (by omega) (by omega) (by omega) (by omega) hl2, eta] at r
    exact r
  · have r := open_any j ⟨(pageB kind id next s.data.toList).toArray⟩ w
    rw [hX, openV_bad (page_other (by omega) hl2 j hj) (by decide)] at r
    exact r
  · have r := open_any id (strOfNums (((⟨(pageB kind id next s.data.toList).toArray⟩ : ByteArray).data.toList.set i y).map fun c => (c.toNat : Int))) w
    have hc : (pageB kind id next s.data.toList)[i]? = some ((⟨(pageB kind id next s.data.toList).toArray⟩ : ByteArray).data[i]'hi) := by simp
    rw [changed_text, hX, openV_bad (page_change hl2 id i _ y hc hy) (by decide)] at r
    exact r
theorem open_cut (id : Int) (X : ByteArray) (w : World) (h : X.size ≠ 256) : Calls Tryd.prog 11 #[.int .i64 id, .string X] w fun e w' => e = .returned (.tuple #[.agg #[.int .i64 0, .int .i64 0, .string ⟨#[]⟩], .int .i64 5]) ∧ Below w.heap.size w w' := by
  have r := open_any id X w
  rw [openV_bad (open_short (by simpa using h)) (by decide)] at r
  exact r

set_option maxRecDepth 100000 in
set_option maxHeartbeats 4000000 in
theorem walk_not (w : World) (id k x : Int) (s : ByteArray) (a b : Int) (hi : IsInt id) (hk : IsInt k) (hx : IsInt x) (hs : s.size ≤ 9223372036854775807) (h : 300 < s.size ∨ s.size ≤ 300 ∧ ¬ (SealOK id k x ∧ s.size ≤ 240)) :
    Calls Tryd.prog 4 #[.int .i64 id, .agg #[.int .i64 k, .int .i64 x, .string s], .int .i64 a, .int .i64 b] w fun e w' => e = .returned (.bool true) ∧ Below w.heap.size w w' := by
  have hH : Has (w.alloc (.cells #[.int .i64 k, .int .i64 x, .string s] 23)) w.heap.size 23 #[.int .i64 k, .int .i64 x, .string s] := Has.made w _ _
  rcases h with h | ⟨h, h2⟩
  · go_enter Tryd.func4, Tryd.ntmps4
    go_wp2_with (go_at_call 6; refine (alive_walk _).mono ?_; rintro e w2 ⟨rfl, hb2⟩)
    go_ret
    exact ⟨rfl, ((Below.refl _ _).alloc (Nat.le_refl _) _).trans (hb2.mono (by simp))⟩
  · obtain ⟨E, hE, hS⟩ := seal_not id k x s hi hk hx h h2
    have HS := Lib.hid hS
    clear h2 hS
    rcases hE with rfl | rfl
    all_goals
      go_enter Tryd.func4, Tryd.ntmps4
      go_wp2_with fail
      refine (HS.out _).mono ?_
      rintro e w2 ⟨rfl, hb2⟩
      go_wp2_with (go_at_call 6; refine (alive_walk _).mono ?_; rintro e w3 ⟨rfl, hb3⟩)
      go_ret
      exact ⟨rfl, (((Below.refl _ _).alloc (Nat.le_refl _) _).trans (hb2.mono (by simp))).trans (hb3.mono (by have := hb2.size; simp at this; omega))⟩

set_option maxRecDepth 100000 in
set_option maxHeartbeats 4000000 in
theorem walk_same (w : World) (id k x : Nat) (s : ByteArray) (a b : Int) (hok : SealOK id k x) (hs : s.size ≤ 240) (hb : b % 256 = 0) :
    Calls Tryd.prog 4 #[.int .i64 id, .agg #[.int .i64 k, .int .i64 x, .string s], .int .i64 a, .int .i64 b] w fun e w' => e = .returned (.bool true) ∧ Below w.heap.size w w' := by
  obtain ⟨X, hX, hS, hO, hJ, -⟩ := seal_fits id k x s hok hs
  have hok' := hok
  obtain ⟨h1, h2, -⟩ := hok'
  obtain ⟨j, hj, hne⟩ := flip_bit id (by omega)
  have HJ := Lib.hid (fun w => hJ j w hne)
  have HS := Lib.hid hS
  have HO := Lib.hid hO
  have hXi : (X.size : Int) = 256 := by omega
  have e3 : (b % 256 == 0) = true := by simpa using hb
  have hH : Has (w.alloc (.cells #[.int .i64 k, .int .i64 x, .string s] 23)) w.heap.size 23 #[.int .i64 k, .int .i64 x, .string s] := Has.made w _ _
  clear hS hO hJ hok h1 h2 hne hb
  go_enter Tryd.func4, Tryd.ntmps4
  go_wp2_with fail
  refine (HS.out _).mono ?_
  rintro e w1 ⟨rfl, hb1⟩
  have hs1 := hb1.size
  simp at hs1
  have hH1 := hH.below hb1 hH.inside
  go_wp2_with fail
  refine (HO.out _).mono ?_
  rintro e w2 ⟨rfl, hb2⟩
  have hs2 := hb2.size
  have hH2 := (hH1.below hb2 hH1.inside).alloc (.cells #[.int .i64 k, .int .i64 x, .string s] 23)
  have hG2 : Has (w2.alloc (.cells #[.int .i64 k, .int .i64 x, .string s] 23)) w2.heap.size 23 #[.int .i64 k, .int .i64 x, .string s] := Has.made w2 _ _
  have r0 : World.cell? (w2.alloc (.cells #[.int .i64 k, .int .i64 x, .string s] 23)) ⟨w.heap.size, 0, none⟩ = some (.int .i64 k) := hH2.cell 0
  have r1 : World.cell? (w2.alloc (.cells #[.int .i64 k, .int .i64 x, .string s] 23)) ⟨w.heap.size, 1, none⟩ = some (.int .i64 x) := hH2.cell 1
  have r2 : World.cell? (w2.alloc (.cells #[.int .i64 k, .int .i64 x, .string s] 23)) ⟨w.heap.size, 2, none⟩ = some (.string s) := hH2.cell 2
  have g0 : World.cell? (w2.alloc (.cells #[.int .i64 k, .int .i64 x, .string s] 23)) ⟨w2.heap.size, 0, none⟩ = some (.int .i64 k) := hG2.cell 0
  have g1 : World.cell? (w2.alloc (.cells #[.int .i64 k, .int .i64 x, .string s] 23)) ⟨w2.heap.size, 1, none⟩ = some (.int .i64 x) := hG2.cell 1
  have g2 : World.cell? (w2.alloc (.cells #[.int .i64 k, .int .i64 x, .string s] 23)) ⟨w2.heap.size, 2, none⟩ = some (.string s) := hG2.cell 2
  go_wp2_with fail
  refine (HJ.out _).mono ?_
  rintro e w3 ⟨rfl, hb3⟩
  have hs3 := hb3.size
  simp at hs3
  go_wp2_with (go_at_call 6; refine (alive_walk _).mono ?_; rintro e w4 ⟨rfl, hb4⟩)
  go_ret
  refine ⟨rfl, ?_⟩
  have hB1 := (((Below.refl _ _).alloc (Nat.le_refl _) _).trans (hb1.mono (B' := w.heap.size) (by simp)))
  have hB2 := hB1.trans (hb2.mono (B' := w.heap.size) (by omega))
  have hB3 := (hB2.alloc (by omega) (.cells #[.int .i64 k, .int .i64 x, .string s] 23)).trans (hb3.mono (B' := w.heap.size) (by simp; omega))
  exact (hB3.alloc (by omega) _).trans (hb4.mono (by simp; omega))

set_option maxRecDepth 100000 in
set_option maxHeartbeats 4000000 in
theorem walk_change (w : World) (id k x : Nat) (s : ByteArray) (a b : Int) (hok : SealOK id k x) (hs : s.size ≤ 240) (hb : ¬ b % 256 = 0) :
    Calls Tryd.prog 4 #[.int .i64 id, .agg #[.int .i64 k, .int .i64 x, .string s], .int .i64 a, .int .i64 b] w fun e w' => e = .returned (.bool true) ∧ Below w.heap.size w w' := by
  obtain ⟨X, hX, hS, hO, hJ, hT⟩ := seal_fits id k x s hok hs
  have hok' := hok
  obtain ⟨h1, h2, -⟩ := hok'
  obtain ⟨j, hj, hne⟩ := flip_bit id (by omega)
  have HJ := Lib.hid (fun w => hJ j w hne)
  have HS := Lib.hid hS
  have HO := Lib.hid hO
  have hXi : (X.size : Int) = 256 := by omega
  have e3 : (b % 256 == 0) = false := by simpa using hb
  obtain ⟨i, hai⟩ : ∃ i : Nat, a % 256 = i := ⟨(a % 256).toNat, by omega⟩
  have hi : i < X.size := by omega
  have hand : bits .and .i64 a 255 = (i : Int) := by rw [i64_and255, hai]
  obtain ⟨d, hd, hdn⟩ := xor_byte (X.data[i]'hi) b
  have HT := Lib.hid (fun w => hT i hi d w (hdn hb))
  have HD := Lib.hid hd
  have H5 := Lib.hid (fun w => open_cut id (X.extract 0 255) w (by simp; omega))
  have hH : Has (w.alloc (.cells #[.int .i64 k, .int .i64 x, .string s] 23)) w.heap.size 23 #[.int .i64 k, .int .i64 x, .string s] := Has.made w _ _
  clear hS hO hJ hok h1 h2 hne hb hT hdn hd hai
  go_enter Tryd.func4, Tryd.ntmps4
  go_wp2_with fail
  refine (HS.out _).mono ?_
  rintro e w1 ⟨rfl, hb1⟩
  have hs1 := hb1.size
  simp at hs1
  have hH1 := hH.below hb1 hH.inside
  go_wp2_with fail
  refine (HO.out _).mono ?_
  rintro e w2 ⟨rfl, hb2⟩
  have hs2 := hb2.size
  have hH2 := (hH1.below hb2 hH1.inside).alloc (.cells #[.int .i64 k, .int .i64 x, .string s] 23)
  have hG2 : Has (w2.alloc (.cells #[.int .i64 k, .int .i64 x, .string s] 23)) w2.heap.size 23 #[.int .i64 k, .int .i64 x, .string s] := Has.made w2 _ _
  have r0 : World.cell? (w2.alloc (.cells #[.int .i64 k, .int .i64 x, .string s] 23)) ⟨w.heap.size, 0, none⟩ = some (.int .i64 k) := hH2.cell 0
  have r1 : World.cell? (w2.alloc (.cells #[.int .i64 k, .int .i64 x, .string s] 23)) ⟨w.heap.size, 1, none⟩ = some (.int .i64 x) := hH2.cell 1
  have r2 : World.cell? (w2.alloc (.cells #[.int .i64 k, .int .i64 x, .string s] 23)) ⟨w.heap.size, 2, none⟩ = some (.string s) := hH2.cell 2
  have g0 : World.cell? (w2.alloc (.cells #[.int .i64 k, .int .i64 x, .string s] 23)) ⟨w2.heap.size, 0, none⟩ = some (.int .i64 k) := hG2.cell 0
  have g1 : World.cell? (w2.alloc (.cells #[.int .i64 k, .int .i64 x, .string s] 23)) ⟨w2.heap.size, 1, none⟩ = some (.int .i64 x) := hG2.cell 1
  have g2 : World.cell? (w2.alloc (.cells #[.int .i64 k, .int .i64 x, .string s] 23)) ⟨w2.heap.size, 2, none⟩ = some (.string s) := hG2.cell 2
  go_wp2_with fail
  refine (HJ.out _).mono ?_
  rintro e w3 ⟨rfl, hb3⟩
  have hs3 := hb3.size
  simp at hs3
  go_wp2_with fail
  have hB1 := (((Below.refl _ _).alloc (Nat.le_refl _) _).trans (hb1.mono (B' := w.heap.size) (by simp)))
  have hB2 := hB1.trans (hb2.mono (B' := w.heap.size) (by omega))
  have hB3 := (hB2.alloc (by omega) (.cells #[.int .i64 k, .int .i64 x, .string s] 23)).trans (hb3.mono (B' := w.heap.size) (by simp; omega))
  have hB5 := hB3.alloc (by omega) (.cells #[.int .i64 0, .int .i64 0, .string ⟨#[]⟩] 23)
  have HPtr : w.heap.size < (w3.alloc (.cells #[.int .i64 0, .int .i64 0, .string ⟨#[]⟩] 23)).heap.size := by simp; omega
  clear hH2 hG2 r0 r1 r2 g0 g1 g2 hB1 hB2 hB3 hb1 hb2 hb3 hs1 hs2 hs3 hH1 hH
  generalize w3.alloc (.cells #[.int .i64 0, .int .i64 0, .string ⟨#[]⟩] 23) = w5 at *
  have hcv := Lib.run_convert_string_bytes (P := Tryd.prog) w5 9 28 5 X (u := .string) Tryd.underlying9 Tryd.underlying28 Tryd.underlying5
  have hcell := bytesWorld_cell w5 5 X i hi
  have hfree : (bytesWorld w5 5 X).frozen? ⟨w5.heap.size, i, none⟩ = false := by
    have h := bytesWorld_at_new w5 5 X
    have hz : X.size ≤ (bytesCells w5 5 X).size := by
      unfold bytesCells
      simp
    simp [World.frozen?, h]
    omega
  obtain ⟨hbM, hzM, hcM⟩ := made (w := w5) (d := d) hi
  have hiX : (i : Int) < 256 := by omega
  have hlen : (X.size : Int) = 256 := by omega
  rw [hX] at hcv
  have HM := Lib.hid (And.intro hbM (And.intro hzM hcM))
  have HB5 := Lib.hid hB5
  have HCE := Lib.hid hcell
  clear hbM hzM hcM hB5
  rw [hcv]
  go_wp2_with fail
  have e4 : X.data[i]?.getD 0 = X.data[i]'hi := by rw [Array.getElem?_eq_getElem hi]; rfl
  rw [e4, HD.out]
  obtain ⟨hbM, hzM, hcM⟩ := HM.out
  have hconv : (convert 28 9 (.slice (some ⟨w5.heap.size, 0, none⟩) 256 (grownCap w5 256 0 5))).run Tryd.prog ((bytesWorld w5 5 X).setCell ⟨w5.heap.size, i, none⟩ (.int .u8 (d.toNat : Int))) = .ok (.string (strOfNums ((X.data.toList.set i d).map fun c => (c.toNat : Int)))) ((bytesWorld w5 5 X).setCell ⟨w5.heap.size, i, none⟩ (.int .u8 (d.toNat : Int))) := by
    have h := run_convert_bytes_arg ((bytesWorld w5 5 X).setCell ⟨w5.heap.size, i, none⟩ (.int .u8 (d.toNat : Int))) 28 5 Tryd.underlying28 Tryd.underlying5 w5.heap.size 0 256 (grownCap w5 256 0 5) ((X.data.toList.set i d).map fun c => (c.toNat : Int)) (by simp; omega) (fun j hj => hcM j (by omega)) 9 Tryd.underlying9
    exact h
  generalize strOfNums ((X.data.toList.set i d).map fun c => (c.toNat : Int)) = T at *
  have HB6 := Lib.hid (HB5.out.trans (hbM.mono (Nat.le_of_lt HPtr)))
  have hz6 : w.heap.size < ((bytesWorld w5 5 X).setCell ⟨w5.heap.size, i, none⟩ (.int .u8 (d.toNat : Int))).heap.size := by rw [hzM]; omega
  clear hbM hcM hcell hfree hcv hzM HPtr HCE HM HB5
  generalize (bytesWorld w5 5 X).setCell ⟨w5.heap.size, i, none⟩ (.int .u8 (d.toNat : Int)) = w6 at *
  rw [hconv]
  go_wp2_with fail
  refine (HT.out _).mono ?_
  rintro e w7 ⟨rfl, hb7⟩
  have hs7 := hb7.size
  go_wp2_with fail
  refine (H5.out _).mono ?_
  rintro e w8 ⟨rfl, hb8⟩
  have hs8 := hb8.size
  simp at hs8
  go_wp2_with (go_at_call 6; refine (alive_walk _).mono ?_; rintro e w9 ⟨rfl, hb9⟩)
  go_ret
  refine ⟨rfl, ?_⟩
  have hC1 := HB6.out.trans (hb7.mono (by omega))
  have hC2 := (hC1.alloc (by omega) (.cells #[.int .i64 0, .int .i64 0, .string ⟨#[]⟩] 23)).trans (hb8.mono (B' := w.heap.size) (by simp; omega))
  exact (hC2.alloc (by omega) _).trans (hb9.mono (by simp; omega))

theorem walk (w : World) (id : Int) (hi : IsInt id) (k x : Int) (s : ByteArray) (hk : IsInt k) (hx : IsInt x) (hs : s.size ≤ 9223372036854775807) (a : Int) (_ha : IsInt a) (b : Int) (_hb : IsInt b) :
    Calls Tryd.prog 4 #[.int .i64 id, .agg #[.int .i64 k, .int .i64 x, .string s], .int .i64 a, .int .i64 b] w fun e w' => e = .returned (.bool true) ∧ Below w.heap.size w w' := by
  by_cases h : SealOK id k x ∧ s.size ≤ 240
  · obtain ⟨h1, h2⟩ := h
    have h3 := h1
    obtain ⟨q1, q2, q3, q4, q5, q6⟩ := h3
    obtain ⟨i, rfl⟩ : ∃ i : Nat, id = i := ⟨id.toNat, by omega⟩
    obtain ⟨m, rfl⟩ : ∃ i : Nat, k = i := ⟨k.toNat, by omega⟩
    obtain ⟨n, rfl⟩ : ∃ i : Nat, x = i := ⟨x.toNat, by omega⟩
    by_cases hb : b % 256 = 0
    · exact walk_same w i m n s a b h1 h2 hb
    · exact walk_change w i m n s a b h1 h2 hb
  · by_cases h2 : 300 < s.size
    · exact walk_not w id k x s a b hi hk hx hs (.inl h2)
    · exact walk_not w id k x s a b hi hk hx hs (.inr ⟨by omega, h⟩)

theorem contract (H : Type) (enc : TypeId × Value → H) (W : World) (base : Nat) (args : Array Value) (ds gs : List (DataW H)) (before : List MemPlace)
    (hval : ∀ (j : Nat) t v, Tryd.f4.params[j]? = some t → args[j]? = some v → Value.okWide Tryd.prog W .any base t v)
    (hW : DataW.Whole enc Tryd.prog Tryd.f4.params.toList Rows.pageBackSpec.vars false W args.toList ds gs before) (hL : laidMetH Tryd.prog Rows.pageBackRow.laid W) :
    Calls Tryd.prog 4 args W fun e W' => ∃ v, e = .returned v ∧ Rows.pageBackSpec.post enc Tryd.prog Tryd.f4 false true false false W args v W' := by
  have hW' := hW
  obtain ⟨p, q, hA0, hV, rfl, hfz, hnd⟩ := hW
  have hA : DataW.TrodAll enc Tryd.prog W 0 (fun _ => true) true Tryd.f4.params.toList args.toList ds p := hA0
  rw [Tryd.params4] at hA hval
  obtain ⟨v0, vs0, d0, ds0, p0, q0, hargs, rfl, rfl, h0, r00⟩ := trodAll_cons hA
  obtain ⟨v1, vs1, d1, ds1, p1, q1, rfl, rfl, rfl, h1, r01⟩ := trodAll_cons r00
  obtain ⟨v2, vs2, d2, ds2, p2, q2, rfl, rfl, rfl, h2, r02⟩ := trodAll_cons r01
  obtain ⟨v3, vs3, d3, ds3, p3, q3, rfl, rfl, rfl, h3, r03⟩ := trodAll_cons r02
  obtain ⟨rfl, rfl, rfl⟩ := trodAll_nil r03
  obtain rfl : args = #[v0, v1, v2, v3] := by cases args; simp_all
  obtain ⟨rfl, rfl⟩ := trodVars_none hV
  obtain ⟨n0, rfl, rfl, rfl, w0⟩ := open_int Tryd.underlying3 (hval 0 3 v0 rfl rfl) h0
  obtain ⟨k1, x1, s1, rfl, rfl, rfl, a1, b1, z1⟩ := open_page (hval 1 23 v1 rfl rfl) h1
  obtain ⟨n2, rfl, rfl, rfl, w2⟩ := open_int Tryd.underlying3 (hval 2 3 v2 rfl rfl) h2
  obtain ⟨n3, rfl, rfl, rfl, w3⟩ := open_int Tryd.underlying3 (hval 3 3 v3 rfl rfl) h3
  clear hA0
  refine (walk W n0 (isInt_of_wf w0) k1 x1 s1 (isInt_of_wf a1) (isInt_of_wf b1) (le_of_maxLen z1) n2 (isInt_of_wf w2) n3 (isInt_of_wf w3)).mono fun e W' ⟨he, hb⟩ => ?_
  subst he
  exact ⟨_, rfl, law_post hW' rfl rfl (by kernel_rfl) (by kernel_rfl) hb⟩

theorem reads (os : Os) {H : Type} (enc : TypeId × Value → H) : ∃ places, DataW.whole enc Tryd.prog ((laidWorld os).forCall (fun _ _ => 0) ⟨#[], #[.int .i64 0, .agg #[.int .i64 0, .int .i64 0, .string ByteArray.empty], .int .i64 0, .int .i64 0], []⟩).memory Tryd.f4.params.toList Rows.pageBackSpec.vars false (#[.int .i64 0, .agg #[.int .i64 0, .int .i64 0, .string ByteArray.empty], .int .i64 0, .int .i64 0] : Array Value).toList 8 = some ([.lit (.int .i64 0), .agg [.lit (.int .i64 0), .lit (.int .i64 0), .lit (.string [])], .lit (.int .i64 0), .lit (.int .i64 0)], [], places) :=
  ⟨[], by kernel_rfl⟩

set_option maxRecDepth 100000 in
theorem lifted (os : Os) (started : os.Started) (H : Type) (enc : TypeId × Value → H) (F : Stop.Interp) :
    ReturnsInHanded {} Tryd.checked os 4 .any ((OpenSpec.ofChange Rows.pageBackSpec).preRow enc Tryd.prog Tryd.f4 Rows.pageBackRow.domain false Rows.pageBackRow.laid) (((OpenSpec.ofChange Rows.pageBackSpec).at F).post enc Tryd.prog Tryd.f4 false true false false) := by
  obtain ⟨places, hx⟩ := reads os enc
  refine returnsInHanded_of_row (C := Tryd.checked) (s := OpenSpec.ofChange Rows.pageBackSpec) own started (by kernel_rfl) Tryd.func4
    (witness_row_at (enc := enc) (C := Tryd.checked) false (laidWorld os) #[.int .i64 0, .agg #[.int .i64 0, .int .i64 0, .string ByteArray.empty], .int .i64 0, .int .i64 0] (laid_os os) (by kernel_rfl) (by kernel_rfl) (by kernel_rfl)
      (OpenSpec.preRow_of_cond 8 hx (by kernel_rfl) (fun k hk => by cases hk) (by kernel_rfl) (laid_met os _))) ?_
  intro W base args ds gs before hval hW _ _ _ hL _ _
  exact contract H enc W base args ds gs before hval hW hL

theorem said : Rows.PageBackSaid :=
  OpenClaim.holds_of_cond 4 Tryd.f4 rfl rfl rfl rfl rfl rfl rfl ⟨rfl, rfl, rfl, rfl, rfl⟩ rfl rfl rfl rfl rfl (by kernel_rfl) Tryd.func4 (by kernel_rfl)
    (of_decide_eq_true (by kernel_rfl)) (by unfold Func.isWrapper; first | (rw [if_pos (by decide +kernel)]; kernel_rfl) | (rw [if_neg (by decide +kernel)]; exact ⟨rfl, rfl⟩))
    (fun os started H enc _ F => by rw [OpenClaim.pre_eq_preRow]; exact lifted os started H enc F)

theorem plain (f : FuncId) (fn : Func) (hf : Tryd.pinned.checked.prog.funcNamed "arboretum/arboretumlaw4.PageBack" = some f) (hfn : Tryd.pinned.checked.prog.funcs[f]? = some fn) :
    false = Tryd.pinned.checked.prog.looks [] ∧ ∀ (j : Nat) t, fn.params[j]? = some t → Tryd.pinned.checked.prog.wantsStandIn t = false := by
  obtain rfl : f = 4 := Option.some.inj ((show Tryd.prog.funcNamed "arboretum/arboretumlaw4.PageBack" = some 4 by kernel_rfl).symm.trans hf) |>.symm
  obtain rfl : fn = Tryd.f4 := (Option.some.inj (Tryd.func4.symm.trans hfn)).symm
  refine ⟨by kernel_rfl, fun j t ht => ?_⟩
  rw [Tryd.params4] at ht
  have hm : t ∈ [3, 23, 3, 3] := by simpa using Array.mem_of_getElem? ht
  have hall : ([3, 23, 3, 3].all fun u => !Tryd.prog.wantsStandIn u) = true := by kernel_rfl
  exact (show Tryd.prog.wantsStandIn t = false by simpa using List.all_eq_true.1 hall t hm)

theorem card : Rows.PageBackCardSaid :=
  Claim7.holds_tied_plain_at .later [] _ _ _ _ said (fun _ h => by cases h) (by kernel_rfl) (fun _ h => by cases h) pageBack_row_tie rfl ⟨rfl, rfl⟩ (by kernel_rfl) rfl plain (by kernel_rfl)

end Go.Proofs.YtaliepcbkfnlhaaDoor.pageBack
