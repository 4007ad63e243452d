/-
  Walks over package meta: what Choose answers of any device, and Write.
-/
import Derived.Test.YthcpjpebahiikaaDoorMg32
import Derived.Test.YthcpjpebahiikaaDoorMg33
namespace Go.Proofs.YthcpjpebahiikaaDoor
open Go.RowKit Go.Lib

/-- What Choose tells: E0 and x are what page 0 is read as, E1 and y what page 1 is. -/
def choE (E0 E1 : Int) (x y : List UInt8) : Int := if E0 ≠ 0 then E0 else if E1 ≠ 0 then E1 else if GetOK 0 x ∨ GetOK 1 y then 0 else 15
def choN (E0 E1 : Int) (x y : List UInt8) (i : Nat) : Int := if E0 ≠ 0 ∨ E1 ≠ 0 then 0 else if GetOK 1 y ∧ (GetOK 0 x → getN 0 x 0 < getN 1 y 0) then getN 1 y i else getN 0 x i
def choV (E0 E1 : Int) (x y : List UInt8) : Value := metaV (choN E0 E1 x y 0) (choN E0 E1 x y 1) (choN E0 E1 x y 2) (choN E0 E1 x y 3)

theorem getTo_yes {i : Int} {b : ByteArray} (h : GetOK i b.data.toList) : GetTo i b (getN i b.data.toList 0) (getN i b.data.toList 1) (getN i b.data.toList 2) (getN i b.data.toList 3) 0 := by
  intro w
  have := get_any i b w
  rwa [getE_ok h] at this
theorem getTo_no {i : Int} {b : ByteArray} (h : ¬ GetOK i b.data.toList) : GetTo i b 0 0 0 0 (getE i b.data.toList) := by
  intro w
  have := get_any i b w
  rwa [(get_bad h).1] at this
theorem getN_no {i : Int} {l : List UInt8} (h : ¬ GetOK i l) (k : Nat) : getN i l k = 0 := by rw [getN, if_neg h]
section
variable {x y : List UInt8} {E0 E1 : Int}
theorem choE_in (h : GetOK 0 x ∨ GetOK 1 y) : choE 0 0 x y = 0 := by unfold choE; rw [if_neg (fun h => h rfl), if_neg (fun h => h rfl), if_pos h]
theorem choE_none (h0 : ¬ GetOK 0 x) (h1 : ¬ GetOK 1 y) : choE 0 0 x y = 15 := by unfold choE; rw [if_neg (fun h => h rfl), if_neg (fun h => h rfl), if_neg (fun h => h.elim h0 h1)]
theorem choE_off (h : E0 ≠ 0) : choE E0 E1 x y = E0 := by unfold choE; rw [if_pos h]
theorem choE_off1 (h : E1 ≠ 0) : choE 0 E1 x y = E1 := by unfold choE; rw [if_neg (fun h => h rfl), if_pos h]
theorem choN_off (h : E0 ≠ 0 ∨ E1 ≠ 0) (i : Nat) : choN E0 E1 x y i = 0 := by unfold choN; rw [if_pos h]
theorem choN_second (h1 : GetOK 1 y) (h : GetOK 0 x → getN 0 x 0 < getN 1 y 0) (i : Nat) : choN 0 0 x y i = getN 1 y i := by
  unfold choN; rw [if_neg (fun h => h.elim (fun h => h rfl) (fun h => h rfl)), if_pos ⟨h1, h⟩]
theorem choN_first (h : ¬ (GetOK 1 y ∧ (GetOK 0 x → getN 0 x 0 < getN 1 y 0))) (i : Nat) : choN 0 0 x y i = getN 0 x i := by
  unfold choN; rw [if_neg (fun h => h.elim (fun h => h rfl) (fun h => h rfl)), if_neg h]
theorem choV_off (h : E0 ≠ 0 ∨ E1 ≠ 0) : choV E0 E1 x y = metaV 0 0 0 0 := by unfold choV; rw [choN_off h, choN_off h, choN_off h, choN_off h]
theorem choV_second (h1 : GetOK 1 y) (h : GetOK 0 x → getN 0 x 0 < getN 1 y 0) : choV 0 0 x y = getV 1 y := by unfold choV getV; rw [choN_second h1 h, choN_second h1 h, choN_second h1 h, choN_second h1 h]
theorem choV_first (h : ¬ (GetOK 1 y ∧ (GetOK 0 x → getN 0 x 0 < getN 1 y 0))) : choV 0 0 x y = getV 0 x := by unfold choV getV; rw [choN_first h, choN_first h, choN_first h, choN_first h]
end
theorem choose_reads (P : Value) (w : World) (b0 b1 : ByteArray) (E0 E1 : Int) (hR0 : ReadTo P w 0 b0 E0) (hR1 : ReadTo P w 1 b1 E1) :
    Calls Tryd.prog 18 #[P] w fun e w' => e = .returned (.tuple #[choV E0 E1 b0.data.toList b1.data.toList, .int .i64 (choE E0 E1 b0.data.toList b1.data.toList)]) ∧ Below w.heap.size w w' := by
  by_cases h0 : E0 = 0
  · subst h0
    by_cases h1 : E1 = 0
    · subst h1
      by_cases g0 : GetOK 0 b0.data.toList
      · rw [choE_in (.inl g0)]
        by_cases g1 : GetOK 1 b1.data.toList
        · by_cases hlt : getN 0 b0.data.toList 0 < getN 1 b1.data.toList 0
          · rw [choV_second g1 (fun _ => hlt)]
            exact cho_both P b0 b1 _ _ _ _ _ _ _ _ 0 0 w hR0 hR1 (getTo_yes g0) (getTo_yes g1) (decide_eq_true hlt)
          · rw [choV_first (fun h => hlt (h.2 g0))]
            exact cho_keep P b0 b1 _ _ _ _ _ _ _ _ 0 0 w hR0 hR1 (getTo_yes g0) (getTo_yes g1) (decide_eq_false hlt)
        · rw [choV_first (fun h => g1 h.1)]
          exact cho_first P b0 b1 _ _ _ _ 0 0 0 0 0 _ w hR0 hR1 (getTo_yes g0) (getTo_no g1) (by simpa using (get_bad g1).2)
      · by_cases g1 : GetOK 1 b1.data.toList
        · rw [choE_in (.inr g1), choV_second g1 (fun h => absurd h g0)]
          exact cho_second P b0 b1 0 0 0 0 _ _ _ _ _ 0 w hR0 hR1 (getTo_no g0) (by simpa using (get_bad g0).2) (getTo_yes g1)
        · rw [choE_none g0 g1, choV_first (fun h => g1 h.1), (get_bad g0).1]
          exact cho_none P b0 b1 0 0 0 0 0 0 0 0 _ _ w hR0 hR1 (getTo_no g0) (by simpa using (get_bad g0).2) (getTo_no g1) (by simpa using (get_bad g1).2)
    · rw [choV_off (.inr h1), choE_off1 h1]
      by_cases g0 : GetOK 0 b0.data.toList
      · exact cho_off1 P b0 b1 _ _ _ _ 0 0 0 0 0 E1 w hR0 (getTo_yes g0) hR1 (by simpa using h1)
      · exact cho_off2 P b0 b1 0 0 0 0 0 0 0 0 _ E1 w hR0 (getTo_no g0) (by simpa using (get_bad g0).2) hR1 (by simpa using h1)
  · rw [choV_off (.inl h0), choE_off h0]
    exact cho_off P b0 b1 0 0 0 0 0 0 0 0 E0 E1 w hR0 (by simpa using h0)

/-- What Choose answers of a device. -/
def chooseV (s : DevS) : Value := choV (readE s 0) (readE s 1) (readB s 0).data.toList (readB s 1).data.toList
def chooseE (s : DevS) : Int := choE (readE s 0) (readE s 1) (readB s 0).data.toList (readB s 1).data.toList
theorem choose_any (p : Nat) (s : DevS) (F : List Nat) (w : World) (h : DevAt w p s F) :
    Calls Tryd.prog 18 #[.pointer (some ⟨p, 0, none⟩)] w fun e w' => e = .returned (.tuple #[chooseV s, .int .i64 (chooseE s)]) ∧ Below w.heap.size w w' :=
  choose_reads _ w _ _ _ _ (fun w' hb => read_any p s F 0 w' (h.goes hb).1) (fun w' hb => read_any p s F 1 w' (h.goes hb).1)
theorem choose_nil (w : World) :
    Calls Tryd.prog 18 #[.pointer none] w fun e w' => e = .returned (.tuple #[metaV 0 0 0 0, .int .i64 14]) ∧ Below w.heap.size w w' :=
  choose_reads _ w ByteArray.empty ByteArray.empty 14 14 (fun w' _ => (read_nil 0 w').mono (by rintro e w'' ⟨rfl, rfl⟩; exact ⟨rfl, Below.refl _ _⟩)) (fun w' _ => (read_nil 1 w').mono (by rintro e w'' ⟨rfl, rfl⟩; exact ⟨rfl, Below.refl _ _⟩))

/-- Write, of a meta that has no page. -/
theorem mwrite_bad (P : Value) (t r f p : Int) (w : World) (ht : IsInt t) (hr : IsInt r) (hf : IsInt f) (hp : IsInt p) (hE : ¬ MetaOK t r f p) :
    Calls Tryd.prog 17 #[P, metaV t r f p] w fun e w' => e = .returned (.int .i64 1) ∧ Below w.heap.size w w' := by
  have hP := mput_any t r f p
  rw [putB, putE, if_neg hE, if_neg hE] at hP
  unfold metaV at hP ⊢
  go_enter Tryd.func17, Tryd.ntmps17
  go_wp2_with fail
  refine (hP _ ht hr hf hp).mono ?_
  rintro e w1 ⟨rfl, hb1⟩
  go_wp2_with fail
  go_ret
  exact ⟨rfl, ((Below.refl _ _).alloc (Nat.le_refl _) _).trans (hb1.mono (by simp))⟩
/-- Write, of a meta that has one. -/
theorem mwrite_ok (P : Value) (t r f p E : Int) (w : World) (Q : World → World → Prop) (ht : IsInt t) (hr : IsInt r) (hf : IsInt f) (hp : IsInt p) (hok : MetaOK t r f p)
    (hW : ∀ w1, Below w.heap.size w w1 → Calls Tryd.prog 15 #[P, .int .i64 (t % 2), .string ⟨(mpage t.toNat r.toNat f.toNat p.toNat).toArray⟩] w1 fun e w' => e = .returned (.int .i64 E) ∧ Q w1 w') :
    Calls Tryd.prog 17 #[P, metaV t r f p] w fun e w' => e = .returned (.int .i64 E) ∧ ∃ w1, Below w.heap.size w w1 ∧ Q w1 w' := by
  have hP := mput_any t r f p
  rw [putB, putE, if_pos hok, if_pos hok] at hP
  have HW := Lib.hid hW
  have hH : Has (w.alloc (.cells #[.int .i64 t, .int .i64 r, .int .i64 f, .int .i64 p] 23)) w.heap.size 23 #[.int .i64 t, .int .i64 r, .int .i64 f, .int .i64 p] := Has.made w _ _
  clear hW
  unfold metaV at hP ⊢
  generalize (⟨(mpage t.toNat r.toNat f.toNat p.toNat).toArray⟩ : ByteArray) = X at *
  go_enter Tryd.func17, Tryd.ntmps17
  go_wp2_with fail
  refine (hP _ ht hr hf hp).mono ?_
  rintro e w1 ⟨rfl, hb1⟩
  have hs1 := hb1.size
  simp at hs1
  have c0 : w1.cell? ⟨w.heap.size, 0, none⟩ = some (.int .i64 t) := (hH.below hb1 hH.inside).cell 0
  have HB := Lib.hid (((Below.refl w.heap.size w).alloc (Nat.le_refl _) (.cells #[.int .i64 t, .int .i64 r, .int .i64 f, .int .i64 p] 23)).trans (hb1.mono (by simp)))
  clear hH hb1
  go_wp2_with (go_at_call 7; refine (place_any _ _).mono ?_; rintro e w5 ⟨rfl, rfl⟩)
  refine (HW.out _ HB.out).mono ?_
  rintro e w6 ⟨rfl, hq⟩
  go_wp2_with fail
  go_ret
  exact ⟨rfl, _, HB.out, hq⟩
end Go.Proofs.YthcpjpebahiikaaDoor
