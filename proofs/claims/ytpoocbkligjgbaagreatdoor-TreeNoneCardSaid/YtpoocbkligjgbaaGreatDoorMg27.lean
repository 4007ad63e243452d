/-
  Walks over package leaf: Find.
-/
import Derived.Test.YtpoocbkligjgbaaGreatDoorMg23
import Derived.Test.YtpoocbkligjgbaaGreatDoorMg24
import Derived.Test.YtpoocbkligjgbaaGreatDoorShelf
namespace Go.Proofs.YtpoocbkligjgbaaGreatDoor
open Go.RowKit Go.Lib

set_option maxRecDepth 100000 in
set_option maxHeartbeats 400000 in
theorem find1_any (x : Itm) (k : ByteArray) (w : World) : Calls Tryz.prog 159 #[iagg x, .string k] w fun e w' => e = .returned (.int .i64 (Lib.compareBytes x.key.data.toList k.data.toList)) ∧ Below w.heap.size w w' := by
  go_enter Tryz.func159, Tryz.ntmps159
  go_wp2_with fail
  refine (Tryz.strings_Compare _ _ _).mono ?_
  rintro e w1 ⟨rfl, rfl⟩
  go_wp2
  go_ret
  exact ⟨rfl, (Below.refl _ _).alloc (Nat.le_refl _) _⟩

set_option maxRecDepth 100000 in
set_option maxHeartbeats 1000000 in
theorem bsf_any (v : Value) (l : List Itm) (k : ByteArray) (w : World) (hr : ReadsIt w w.heap.size v l) (hrise : Rise l) (hl : l.length ≤ 35184372088832) :
    Calls Tryz.prog 158 #[v, .string k, .func (.func 159) #[] #[]] w fun e w' => e = .returned (.tuple #[.int .i64 (lb l k), .bool (isAt l k)]) ∧ Below w.heap.size w w' := by
  obtain ⟨A, c, rfl, hlc, hcm, _, hc⟩ := hr
  have hcm' : c ≤ 9223372036854775807 := by unfold maxLen at hcm; omega
  clear hcm
  obtain ⟨T, hT⟩ : ∃ T, isAt l k = T := ⟨_, rfl⟩
  rw [hT]
  have HT := Lib.hid hT
  clear hT
  go_enter Tryz.func158, Tryz.ntmps158
  go_wp2
  go_loopw [9, 10] (fun iv jv wr => ∃ i j : Nat, iv = .int .i64 i ∧ jv = .int .i64 j ∧ i ≤ lb l k ∧ lb l k ≤ j ∧ j ≤ l.length ∧ Below w.heap.size w wr) (fun iv jv _ => (RowKit.intOf jv).toNat - (RowKit.intOf iv).toNat)
  case atStart => exact ⟨0, l.length, rfl, rfl, Nat.zero_le _, lb_le _ _, Nat.le_refl _, Below.refl _ _⟩
  case round =>
    obtain ⟨i, j, rfl, rfl, hi, hj, hjl, hbl⟩ := hrel
    have hbs := hbl.size
    by_cases hlt : i < j
    · obtain ⟨b, off, rfl, hbb, hcell⟩ := hc (by omega)
      have hm : (i + j) / 2 < l.length := by omega
      obtain ⟨c0, c1, c2, c3⟩ := (hcell.below hbl hbb) ((i + j) / 2) hm
      have hsum : (i : Int) + j ≤ 70368744177664 := by omega
      have hmi : i ≤ (i + j) / 2 := by omega
      have hmj : (i + j) / 2 < j := by omega
      have hcmp := (ltK_cmp l[(i + j) / 2].key k).1
      have hF := fun w => find1_any l[(i + j) / 2] k w
      obtain ⟨C, hC⟩ : ∃ C, Lib.compareBytes l[(i + j) / 2].key.data.toList k.data.toList = C := ⟨_, rfl⟩
      rw [hC] at hcmp
      simp only [hC] at hF
      have HF := Lib.hid hF
      have HK := Lib.hid (And.intro hcell (And.intro hC hcmp))
      clear hF hcell hC hcmp
      cases hlk : ltK l[(i + j) / 2].key k
      · have hC0 : ¬ C < 0 := fun h => by have := HK.out.2.2.1 h; rw [hlk] at this; cases this
        have hle : lb l k ≤ (i + j) / 2 := by
          rcases Nat.lt_or_ge ((i + j) / 2) (lb l k) with h | h
          · have := lb_below h hm
            rw [hlk] at this
            cases this
          · exact h
        have HLK := Lib.hid hlk
        clear hlk
        generalize hxx : l[(i + j) / 2] = x at *
        have HX := Lib.hid hxx
        clear hxx
        go_wp2_with fail
        refine (HF.out _).mono ?_
        rintro e w1 ⟨rfl, hb1⟩
        go_wp2_with fail
        have em : ((i : Int) + j) / 2 = (((i + j) / 2 : Nat) : Int) := by omega
        rw [em]
        go_roundw
        case rel => exact ⟨i, (i + j) / 2, rfl, rfl, hi, hle, by omega, hbl.trans (hb1.mono hbs)⟩
        case measure => simp [RowKit.intOf]; omega
      · have hC0 : C < 0 := HK.out.2.2.2 hlk
        have hle : (i + j) / 2 + 1 ≤ lb l k := by
          rcases Nat.lt_or_ge ((i + j) / 2) (lb l k) with h | h
          · exact h
          · have := lb_above hrise h hm
            rw [hlk] at this
            cases this
        have HLK := Lib.hid hlk
        clear hlk
        generalize hxx : l[(i + j) / 2] = x at *
        have HX := Lib.hid hxx
        clear hxx
        go_wp2_with fail
        refine (HF.out _).mono ?_
        rintro e w1 ⟨rfl, hb1⟩
        go_wp2_with fail
        have em : ((i : Int) + j) / 2 + 1 = (((i + j) / 2 + 1 : Nat) : Int) := by omega
        rw [em]
        go_roundw
        case rel => exact ⟨(i + j) / 2 + 1, j, rfl, rfl, hle, hj, hjl, hbl.trans (hb1.mono hbs)⟩
        case measure => simp [RowKit.intOf]; omega
    · have e1 : lb l k = i := by omega
      have e2 : i = j := by omega
      subst e2
      have HE := Lib.hid e1
      have hi0 : (0 : Int) ≤ i := by omega
      by_cases hin : i < l.length
      · obtain ⟨b, off, rfl, hbb, hcell⟩ := hc (by omega)
        obtain ⟨c0, c1, c2, c3⟩ := (hcell.below hbl hbb) i hin
        have hcmp := (ltK_cmp l[i].key k).2
        have hF := fun w => find1_any l[i] k w
        obtain ⟨C, hC⟩ : ∃ C, Lib.compareBytes l[i].key.data.toList k.data.toList = C := ⟨_, rfl⟩
        rw [hC] at hcmp
        simp only [hC] at hF
        have HF := Lib.hid hF
        have HTC : T = decide (C = 0) := by
          rw [← HT.out]
          cases hTT : isAt l k
          · refine (decide_eq_false fun h => ?_).symm
            have := isAt_iff.2 ⟨by omega, show l[lb l k].key = k by simp only [e1]; exact hcmp.1 h⟩
            rw [hTT] at this
            cases this
          · obtain ⟨h1, h2⟩ := isAt_iff.1 hTT
            simp only [e1] at h2
            exact (decide_eq_true (hcmp.2 h2)).symm
        have HTC := Lib.hid HTC
        have HCL := Lib.hid (And.intro hcell hC)
        clear hF hcell hC hcmp e1 hi hj hlt hc
        generalize l[i] = x at *
        go_wp2_with fail
        refine (HF.out _).mono ?_
        rintro e w1 ⟨rfl, hw1⟩
        go_wp2_with fail
        go_ret2
        refine ⟨?_, hbl.trans (hw1.mono hbs)⟩
        rw [HE.out, HTC.out]
        simp
        rfl
      · have HTF : Hid (T = false) := Lib.hid (by
          rw [← HT.out]
          cases hTT : isAt l k
          · rfl
          · obtain ⟨h1, h2⟩ := isAt_iff.1 hTT
            omega)
        have hni : decide (i < l.length) = false := decide_eq_false hin
        clear e1 hi hj hlt hc
        go_wp2_with fail
        go_ret2
        refine ⟨?_, hbl⟩
        rw [HE.out, HTF.out]
        rfl

set_option maxRecDepth 100000 in
set_option maxHeartbeats 400000 in
theorem find_any (v : Value) (l : List Itm) (k : ByteArray) (w : World) (hr : ReadsIt w w.heap.size v l) (hrise : Rise l) (hl : l.length ≤ 35184372088832) :
    Calls Tryz.prog 110 #[v, .string k] w fun e w' => e = .returned (.tuple #[.int .i64 (lb l k), .bool (isAt l k)]) ∧ Below w.heap.size w w' := by
  have hb := bsf_any v l k w hr hrise hl
  obtain ⟨A, c, rfl⟩ := hr.form
  have hlb := lb_le l k
  generalize lb l k = n at *
  generalize isAt l k = T at *
  clear hr
  go_enter Tryz.func110, Tryz.ntmps110
  go_wp2_with fail
  refine hb.mono ?_
  rintro e w1 ⟨rfl, hb1⟩
  go_wp2_with fail
  go_ret2
  exact ⟨rfl, hb1⟩
end Go.Proofs.YtpoocbkligjgbaaGreatDoor
