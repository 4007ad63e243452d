/-
  The least one of a list of distinct Seqs, and of numbers.
-/
import Derived.Test.YtjimjemogbphaaaP3
import Derived.Test.YtjimjemogbphaaaP6
namespace Go.Proofs.Ytjimjemogbphaaa
open Go.RowKit Go.Sort

/-- No two have one Seq. -/
def Distinct (m : List Due) : Prop := (m.map fun d => d.2.1).Nodup
theorem Distinct.perm {m n : List Due} (h : Distinct m) (hp : m.Perm n) : Distinct n := (hp.map _).nodup_iff.1 h

theorem due_le {x y : Due} (h : ltDue y x = false) (hne : x.2.1 ≠ y.2.1) : ltDue x y = true := by
  simp only [ltDue, decide_eq_false_iff_not, decide_eq_true_eq] at *
  omega

theorem due_least (m : List Due) (h : m ≠ []) (hd : Distinct m) : ∃ x s, m.Perm (x :: s) ∧ (∀ y ∈ s, ltDue x y = true) ∧ Distinct s := by
  have hp := isort_perm (lt := ltDue) m
  have hs := isort_srt swo_due m
  cases hi : isort ltDue m with
  | nil =>
    rw [hi] at hp
    exact absurd (List.Perm.nil_eq hp).symm h
  | cons x s =>
    rw [hi] at hp hs
    have hdx : Distinct (x :: s) := hd.perm hp.symm
    have h2 := List.nodup_cons.1 (show ((x :: s).map fun d => d.2.1).Nodup from hdx)
    refine ⟨x, s, hp.symm, fun y hy => due_le ((List.pairwise_cons.1 hs).1 y hy) (fun e => ?_), h2.2⟩
    have hin : x.2.1 ∈ s.map fun d : Due => d.2.1 := by
      rw [e]
      exact List.mem_map_of_mem (f := fun d : Due => d.2.1) hy
    exact h2.1 hin

theorem int_least (m : List Int) (h : m ≠ []) : ∃ x s, m.Perm (x :: s) ∧ ∀ y ∈ s, x ≤ y := by
  have hp := List.mergeSort_perm m leInt
  have hs := srt_le m
  cases hi : m.mergeSort leInt with
  | nil =>
    rw [hi] at hp
    exact absurd (List.Perm.nil_eq hp).symm h
  | cons x s =>
    rw [hi] at hp hs
    exact ⟨x, s, hp.symm, (List.pairwise_cons.1 hs).1⟩

end Go.Proofs.Ytjimjemogbphaaa
