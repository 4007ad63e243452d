/-
  Walks over package leaf: elsewhere, textSize, right.
-/
import Derived.Test.YtbhacdoeacblpaaLI1
import Derived.Test.YtbhacdoeacblpaaLM2
import Derived.Test.YtbhacdoeacblpaaCL
import Derived.Deep.QuietTactic
import Derived.BigQuiet
import Derived.Deep.RegionHeld3
import Derived.StillTailTactics
namespace Go.Proofs.Ytbhacdoeacblpaa
open Go.RowKit Go.Lib

set_option maxRecDepth 100000 in
set_option maxHeartbeats 400000 in
theorem else_any (x : Itm) (w : World) : Calls Try.prog 23 #[iagg x] w fun e w' => e = .returned (.bool (x.over != 0)) ∧ Below w.heap.size w w' := by
  go_enter Try.func23, Try.ntmps23
  go_wp2
  go_ret
  exact ⟨rfl, (Below.refl _ _).alloc (Nat.le_refl _) _⟩

theorem var1_any (g : Nat) (n : Int) (w : World) (hi : IsInt n) (hc : w.cell? ⟨g, 0, none⟩ = some (.int .i64 n)) :
    Calls Try.prog 24 #[.slice (some ⟨g, 0, none⟩) 1 1] w fun e w' => e = .returned (.string ⟨(uvarint (zigzag n)).toArray⟩) ∧ Below w.heap.size w w' := by
  have hr : Reads1 w w.heap.size (.slice (some ⟨g, 0, none⟩) 1 1) ([n].map (Value.int .i64)) := by
    refine ⟨_, _, rfl, fun _ => ⟨g, 0, rfl, World.block_lt_of_cell? w _ hc, fun j u hu => ?_⟩⟩
    match j, hu with
    | 0, hu => simp at hu; subst hu; exact hc
    | j + 1, hu => simp at hu
  have h := var_any _ [n] w hr (by simp) (by intro x hx; simp at hx; subst hx; exact hi)
  have e1 : varsB [n] = uvarint (zigzag n) := by simp [varsB]
  rw [e1] at h
  exact h
theorem var2_any (g : Nat) (n m : Int) (w : World) (hi : IsInt n) (hj : IsInt m) (hc : w.cell? ⟨g, 0, none⟩ = some (.int .i64 n)) (hd : w.cell? ⟨g, 1, none⟩ = some (.int .i64 m)) :
    Calls Try.prog 24 #[.slice (some ⟨g, 0, none⟩) 2 2] w fun e w' => e = .returned (.string ⟨(varsB [n, m]).toArray⟩) ∧ Below w.heap.size w w' := by
  have hr : Reads1 w w.heap.size (.slice (some ⟨g, 0, none⟩) 2 2) ([n, m].map (Value.int .i64)) := by
    refine ⟨_, _, rfl, fun _ => ⟨g, 0, rfl, World.block_lt_of_cell? w _ hc, fun j u hu => ?_⟩⟩
    match j, hu with
    | 0, hu => simp at hu; subst hu; exact hc
    | 1, hu => simp at hu; subst hu; exact hd
    | j + 2, hu => simp at hu
  exact var_any _ [n, m] w hr (by simp) (by intro x hx; simp at hx; rcases hx with rfl | rfl <;> assumption)

set_option maxRecDepth 100000 in
set_option maxHeartbeats 400000 in
theorem tsize_any (s : ByteArray) (w : World) (hs : s.size ≤ 4611686018427387904) : Calls Try.prog 31 #[.string s] w fun e w' => e = .returned (.int .i64 ((textB s).length : Nat)) ∧ Below w.heap.size w w' := by
  have hv := fun g w => var1_any g (s.size : Int) w ⟨by omega, by omega⟩
  have hu := uvarint_length64 (zigzag_lt (x := (s.size : Int)) (by omega) (by omega))
  have hl : (textB s).length = (uvarint (zigzag (s.size : Int))).length + s.size := by
    have h2 : s.data.toList.length = s.size := by simp
    unfold textB
    rw [List.length_append, h2]
  generalize uvarint (zigzag (s.size : Int)) = U at *
  generalize (textB s).length = T at *
  have HV := Lib.hid hv
  have HL := Lib.hid hl
  clear hv hl
  go_enter Try.func31, Try.ntmps31
  go_wp2_with fail
  refine (HV.out _ _ ?_).mono ?_
  · go_simp
  rintro e w1 ⟨rfl, hb1⟩
  go_wp2
  go_ret
  exact ⟨ret_i64 (by have := HL.out; omega), ((Below.refl _ _).alloc (Nat.le_refl _) _).trans (hb1.mono (by simp))⟩

theorem key_big {x : Itm} (h : ¬ (1 ≤ x.key.size ∧ x.key.size ≤ 40)) : rightB x = false := by
  unfold rightB
  rw [decide_eq_false h, Bool.false_and]
theorem empty_of_size {s : ByteArray} (h : s.size = 0) : s = ⟨#[]⟩ := ByteArray.ext (Array.eq_empty_of_size_eq_zero h)
/-- The box of an item, in a world where nothing that was there has turned. -/
theorem box_cells {w w1 : World} (x : Itm) (hb : Below (w.heap.size + 1) (w.alloc (iobj x)) w1) :
    w1.cell? ⟨w.heap.size, 0, none⟩ = some (.string x.key) ∧ w1.cell? ⟨w.heap.size, 1, none⟩ = some (.string x.val) ∧ w1.cell? ⟨w.heap.size, 2, none⟩ = some (.int .i64 x.over) ∧ w1.cell? ⟨w.heap.size, 3, none⟩ = some (.int .i64 x.size) := by
  have hm := (Has.made w 24 #[.string x.key, .string x.val, .int .i64 x.over, .int .i64 x.size]).below hb (by omega)
  exact ⟨hm.cell 0, hm.cell 1, hm.cell 2, hm.cell 3⟩
set_option maxRecDepth 100000 in
set_option maxHeartbeats 1000000 in
theorem right_any (x : Itm) (w : World) : Calls Try.prog 38 #[iagg x] w fun e w' => e = .returned (.bool (rightB x)) ∧ Below w.heap.size w w' := by
  obtain ⟨k, v, o, s⟩ := x
  by_cases hk : 1 ≤ k.size ∧ k.size ≤ 40
  · obtain ⟨hk1, hk2⟩ := hk
    have HE := Lib.hid (fun w => else_any ⟨k, v, o, s⟩ w)
    have HB := Lib.hid (fun w1 => box_cells (w := w) (w1 := w1) ⟨k, v, o, s⟩)
    by_cases ho : o = 0
    · subst ho
      have hr : rightB ⟨k, v, 0, s⟩ = decide (s = 0 ∧ v.size ≤ 60) := by
        unfold rightB
        simp only [if_true]
        rw [decide_eq_true ⟨hk1, hk2⟩, Bool.true_and]
      rw [hr]
      by_cases hs : s = 0 ∧ v.size ≤ 60
      · rw [decide_eq_true hs]
        obtain ⟨rfl, hv⟩ := hs
        go_enter Try.func38, Try.ntmps38
        go_wp2_with fail
        refine (HE.out _).mono ?_
        rintro e w1 ⟨rfl, hb1⟩
        obtain ⟨c0, c1, c2, c3⟩ := HB.out w1 (by simpa using hb1)
        have H1 := Lib.hid hb1
        clear hb1
        go_wp2
        go_ret
        exact ⟨ret_bool (by simp; omega), ((Below.refl _ _).alloc (Nat.le_refl _) _).trans (H1.out.mono (by simp))⟩
      · rw [decide_eq_false hs]
        go_enter Try.func38, Try.ntmps38
        go_wp2_with fail
        refine (HE.out _).mono ?_
        rintro e w1 ⟨rfl, hb1⟩
        obtain ⟨c0, c1, c2, c3⟩ := HB.out w1 (by simpa using hb1)
        have H1 := Lib.hid hb1
        have HS := Lib.hid hs
        clear hb1 hs
        go_wp2
        all_goals
          go_ret
          refine ⟨?_, ((Below.refl _ _).alloc (Nat.le_refl _) _).trans (H1.out.mono (by simp))⟩
          have := HS.out
          first | rfl | (exact ret_bool (by simp; omega)) | (exfalso; omega)
    · have hr : rightB ⟨k, v, o, s⟩ = decide (0 < o ∧ o ≤ 4294967295 ∧ 60 < s ∧ s ≤ 2000 ∧ v = ⟨#[]⟩) := by
        unfold rightB
        simp only [if_neg ho]
        rw [decide_eq_true ⟨hk1, hk2⟩, Bool.true_and]
      rw [hr]
      have hne : (o != 0) = true := by simpa using ho
      by_cases hs : 0 < o ∧ o ≤ 4294967295 ∧ 60 < s ∧ s ≤ 2000 ∧ v = ⟨#[]⟩
      · rw [decide_eq_true hs]
        obtain ⟨ho1, ho2, hs1, hs2, rfl⟩ := hs
        have HNE := Lib.hid hne
        clear ho hne
        go_enter Try.func38, Try.ntmps38
        go_wp2_with fail
        refine (HE.out _).mono ?_
        rintro e w1 ⟨rfl, hb1⟩
        obtain ⟨c0, c1, c2, c3⟩ := HB.out w1 (by simpa using hb1)
        have H1 := Lib.hid hb1
        clear hb1
        simp only [HNE.out]
        go_wp2
        all_goals
          go_ret
          refine ⟨?_, ((Below.refl _ _).alloc (Nat.le_refl _) _).trans (H1.out.mono (by simp))⟩
          refine ret_bool ?_
          simp
      · rw [decide_eq_false hs]
        have HNE := Lib.hid hne
        have HS := Lib.hid hs
        clear ho hne hs
        go_enter Try.func38, Try.ntmps38
        go_wp2_with fail
        refine (HE.out _).mono ?_
        rintro e w1 ⟨rfl, hb1⟩
        obtain ⟨c0, c1, c2, c3⟩ := HB.out w1 (by simpa using hb1)
        have H1 := Lib.hid hb1
        clear hb1
        simp only [HNE.out]
        go_wp2
        all_goals
          go_ret
          refine ⟨?_, ((Below.refl _ _).alloc (Nat.le_refl _) _).trans (H1.out.mono (by simp))⟩
          refine ret_bool ?_
          have hs := HS.out
          first
            | (simp; done)
            | (simp; intro hv; exact hs ⟨by omega, by omega, by omega, by omega, toList_inj (hv.trans (by rw [Lib.toList_data]))⟩)
  · rw [key_big hk]
    by_cases h1 : 1 ≤ k.size
    · have h2 : 40 < k.size := by omega
      clear hk
      go_enter Try.func38, Try.ntmps38
      go_wp2_with fail
      go_ret
      exact ⟨rfl, (Below.refl _ _).alloc (Nat.le_refl _) _⟩
    · clear hk
      go_enter Try.func38, Try.ntmps38
      go_wp2_with fail
      go_ret
      exact ⟨rfl, (Below.refl _ _).alloc (Nat.le_refl _) _⟩

end Go.Proofs.Ytbhacdoeacblpaa
