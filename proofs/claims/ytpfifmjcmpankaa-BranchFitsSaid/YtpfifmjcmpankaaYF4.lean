/-
  Walks over package branch: Fits, Put.
-/
import Derived.Test.YtpfifmjcmpankaaYF3
import Derived.Test.YtpfifmjcmpankaaBLD2
import Derived.Test.YtpfifmjcmpankaaShelf3
namespace Go.Proofs.Ytpfifmjcmpankaa.BR
open Go.RowKit Go.Lib

theorem bld_below {B b : Nat} {bs : List Value} {w w' : World} (h : IsBuilder 47 5 B b bs w) (hb : Below w.heap.size w w') : IsBuilder 47 5 B b bs w' := by
  rcases h with ⟨h1, v, h2, h3, h4⟩ | ⟨h1, v, h2, h3, h4⟩
  · exact .inl ⟨h1, v, (hb.block b (lt_of_block h2)).trans h2, row_kept (F := []) h3 (Kept.of_below hb) (fun g _ hF => by simp at hF), h4⟩
  · exact .inr ⟨h1, v, (hb.block b (lt_of_block h2)).trans h2, row_kept (F := []) h3 (Kept.of_below hb) (fun g _ hF => by simp at hF), h4⟩

theorem okl_sz {l : List Chd} (h : OKL l) (hl : l.length ≤ 35184372088832) : sz l ≤ 4611686018427387904 := by
  have := right_sz h.2.1
  omega

set_option maxRecDepth 100000 in
set_option maxHeartbeats 1000000 in
theorem fits_any (v : Value) (l : List Chd) (w : World) (hr : ReadsIt w w.heap.size v l) (hl : l.length ≤ 35184372088832) :
    Calls Try.prog 11 #[v] w fun e w' => e = .returned (.bool (decide (OKL l ∧ sz l ≤ 240))) ∧ Below w.heap.size w w' := by
  have ha := allRight_any v l w hr
  by_cases hok : OKL l
  · have hs := fun w1 (hb : Below w.heap.size w w1) => size_any v l w1 (hr.grow hb hb.size) (fun x hx => right_ok (hok.2.1 x hx)) (okl_sz hok hl)
    have e1 : decide (OKL l ∧ sz l ≤ 240) = decide (sz l ≤ 240) := by simp [hok]
    rw [decide_eq_true hok] at ha
    rw [e1]
    have hsz := okl_sz hok hl
    generalize sz l = n at *
    have HS := Lib.hid hs
    clear hs e1 hok
    go_enter Try.func11, Try.ntmps11
    go_wp2_with fail
    refine ha.mono ?_
    rintro e w1 ⟨rfl, hb1⟩
    clear ha hr
    go_wp2_with fail
    refine (HS.out _ hb1).mono ?_
    rintro e w2 ⟨rfl, hb2⟩
    go_wp2_with fail
    all_goals
      go_ret
      exact ⟨ret_bool (by first | rfl | (simp; done) | (simp; omega)), hb1.trans (hb2.mono hb1.size)⟩
  · have e1 : decide (OKL l ∧ sz l ≤ 240) = false := by simp [hok]
    rw [decide_eq_false hok] at ha
    rw [e1]
    clear e1 hok hr
    go_enter Try.func11, Try.ntmps11
    go_wp2_with fail
    refine ha.mono ?_
    rintro e w1 ⟨rfl, hb1⟩
    clear ha
    go_wp2_with fail
    go_ret
    exact ⟨rfl, hb1⟩
end Go.Proofs.Ytpfifmjcmpankaa.BR
