/-
  What is put into a line, one behind the other.
-/
import Derived.Test.YtjimjemogbphaaaPM
namespace Go.Proofs.Ytjimjemogbphaaa
open Go.RowKit Go.Sort

/-- What was put: each time with its number, and its place. -/
def mkd (l : List Int) : List Due := l.zipIdx.map fun t => (t.1, ((t.2 + 1 : Nat) : Int), ((t.2 : Nat) : Int))
theorem mkd_snoc (l : List Int) (x : Int) : mkd (l ++ [x]) = mkd l ++ [(x, ((l.length + 1 : Nat) : Int), (l.length : Int))] := by
  unfold mkd
  rw [List.zipIdx_append]
  simp
theorem length_mkd (l : List Int) : (mkd l).length = l.length := by simp [mkd]
theorem mem_mkd {l : List Int} {d : Due} (h : d ∈ mkd l) : ∃ i, ∃ h : i < l.length, d = (l[i], ((i + 1 : Nat) : Int), (i : Int)) := by
  unfold mkd at h
  obtain ⟨t, ht, rfl⟩ := List.mem_map.1 h
  obtain ⟨t1, t2⟩ := t
  have h1 := List.mem_zipIdx ht
  have hlt : t2 < l.length := by omega
  have e : t1 = l[t2] := by simpa using h1.2.2
  exact ⟨t2, hlt, by simp [e]⟩
theorem distinct_mkd (l : List Int) : Distinct (mkd l) := by
  unfold Distinct mkd
  rw [List.map_map]
  have : (fun d : Due => d.2.1) ∘ (fun t : Int × Nat => ((t.1, ((t.2 + 1 : Nat) : Int), ((t.2 : Nat) : Int)) : Due)) = (fun n : Nat => ((n + 1 : Nat) : Int)) ∘ Prod.snd := by
    funext t
    rfl
  rw [this, ← List.map_map, List.zipIdx_map_snd]
  refine List.Pairwise.map _ (fun a b hab => ?_) (List.nodup_range' 1 (by omega))
  simp
  omega


theorem take_mkd (l : List Int) (k : Nat) (h : k < l.length) : mkd (l.take (k + 1)) = mkd (l.take k) ++ [(l[k], ((k + 1 : Nat) : Int), (k : Int))] := by
  rw [List.take_succ_eq_append_getElem h, mkd_snoc]
  have : (l.take k).length = k := by simp; omega
  rw [this]
end Go.Proofs.Ytjimjemogbphaaa
