/-
  The least one of a list of distinct Seqs, and of numbers. What is put into a line, one behind the other.
-/
import Derived.Test.YtlalhinodmmgfaaGreatMg34
import Derived.Test.YtlalhinodmmgfaaGreatMg35
namespace Go.Proofs.YtlalhinodmmgfaaGreat
open Go.RowKit Go.Sort

/-- No two have one Seq. -/
def Distinct (m : List Due) : Prop := (m.map fun d => d.2.1).Nodup
theorem Distinct.perm {m n : List Due} (h : Distinct m) (hp : m.Perm n) : Distinct n := (hp.map _).nodup_iff.1 h

theorem due_le {x y : Due} (h : ltDue y x = false) (hne : x.2.1 ≠ y.2.1) : ltDue x y = true := by
  simp only [ltDue, decide_eq_false_iff_not, decide_eq_true_eq] at *
  omega

theorem due_least (m : List Due) (h : m ≠ []) (hd : Distinct m) : ∃ x s, m.Perm (x :: s) ∧ (∀ y ∈ s, ltDue x y = true) ∧ Distinct s := by
  have hp := isort_perm (lt := ltDue) m
  have hs := isort_srt swo_due m
  cases hi : isort ltDue m with
  | nil =>
    rw [hi] at hp
    exact absurd (List.Perm.nil_eq hp).symm h
  | cons x s =>
    rw [hi] at hp hs
    have hdx : Distinct (x :: s) := hd.perm hp.symm
    have h2 := List.nodup_cons.1 (show ((x :: s).map fun d => d.2.1).Nodup from hdx)
    refine ⟨x, s, hp.symm, fun y hy => due_le ((List.pairwise_cons.1 hs).1 y hy) (fun e => ?_), h2.2⟩
    have hin : x.2.1 ∈ s.map fun d : Due => d.2.1 := by
      rw [e]
      exact List.mem_map_of_mem (f := fun d : Due => d.2.1) hy
    exact h2.1 hin

theorem int_least (m : List Int) (h : m ≠ []) : ∃ x s, m.Perm (x :: s) ∧ ∀ y ∈ s, x ≤ y := by
  have hp := List.mergeSort_perm m leInt
  have hs := srt_le m
  cases hi : m.mergeSort leInt with
  | nil =>
    rw [hi] at hp
    exact absurd (List.Perm.nil_eq hp).symm h
  | cons x s =>
    rw [hi] at hp hs
    exact ⟨x, s, hp.symm, (List.pairwise_cons.1 hs).1⟩

end Go.Proofs.YtlalhinodmmgfaaGreat

namespace Go.Proofs.YtlalhinodmmgfaaGreat
open Go.RowKit Go.Sort

/-- What was put: each time with its number, and its place. -/
def mkd (l : List Int) : List Due := l.zipIdx.map fun t => (t.1, ((t.2 + 1 : Nat) : Int), ((t.2 : Nat) : Int))
theorem mkd_snoc (l : List Int) (x : Int) : mkd (l ++ [x]) = mkd l ++ [(x, ((l.length + 1 : Nat) : Int), (l.length : Int))] := by
  unfold mkd
  rw [List.zipIdx_append]
  simp
theorem length_mkd (l : List Int) : (mkd l).length = l.length := by simp [mkd]
theorem mem_mkd {l : List Int} {d : Due} (h : d ∈ mkd l) : ∃ i, ∃ h : i < l.length, d = (l[i], ((i + 1 : Nat) : Int), (i : Int)) := by
  unfold mkd at h
  obtain ⟨t, ht, rfl⟩ := List.mem_map.1 h
  obtain ⟨t1, t2⟩ := t
  have h1 := List.mem_zipIdx ht
  have hlt : t2 < l.length := by omega
  have e : t1 = l[t2] := by simpa using h1.2.2
  exact ⟨t2, hlt, by simp [e]⟩
theorem distinct_mkd (l : List Int) : Distinct (mkd l) := by
  unfold Distinct mkd
  rw [List.map_map]
  have : (fun d : Due => d.2.1) ∘ (fun t : Int × Nat => ((t.1, ((t.2 + 1 : Nat) : Int), ((t.2 : Nat) : Int)) : Due)) = (fun n : Nat => ((n + 1 : Nat) : Int)) ∘ Prod.snd := by
    funext t
    rfl
  rw [this, ← List.map_map, List.zipIdx_map_snd]
  refine List.Pairwise.map _ (fun a b hab => ?_) (List.nodup_range' 1 (by omega))
  simp
  omega


theorem take_mkd (l : List Int) (k : Nat) (h : k < l.length) : mkd (l.take (k + 1)) = mkd (l.take k) ++ [(l[k], ((k + 1 : Nat) : Int), (k : Int))] := by
  rw [List.take_succ_eq_append_getElem h, mkd_snoc]
  have : (l.take k).length = k := by simp; omega
  rw [this]
end Go.Proofs.YtlalhinodmmgfaaGreat
