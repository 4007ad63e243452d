/-
  Walks: the waiting of all writes ends (settle).
-/
import Derived.Test.YthcpjpebahiikaaDoorMg28
import Derived.Test.YthcpjpebahiikaaDoorMg29
namespace Go.Proofs.YthcpjpebahiikaaDoor
open Go.RowKit Go.Lib

/-- A page of which sectors of a write stay. -/
def mixB (old d : ByteArray) (keep : Int) : ByteArray := ⟨(mixL old.data.toList d.data.toList keep).toArray⟩
theorem mixB_size {old d : ByteArray} {keep : Int} (h1 : old.size = 256) (h2 : d.size = 256) : (mixB old d keep).size = 256 := by
  show (mixL old.data.toList d.data.toList keep).toArray.size = 256
  rw [List.size_toArray, mixL_length (by rw [← h1]; rfl) (by rw [← h2]; rfl)]
/-- One write settles. -/
def settle1 (s : DevS) (n : Int) (d : ByteArray) (keep : Int) : DevS :=
  { s with pages := s.pages.set n.toNat (mixB (s.synced.getD n.toNat ByteArray.empty) d keep), synced := s.synced.set n.toNat (mixB (s.synced.getD n.toNat ByteArray.empty) d keep) }
/-- All writes settle, the first one with the i-th keep. -/
def settled (keep : Nat → Int) : Nat → List (Int × ByteArray) → DevS → DevS
  | _, [], s => { s with line := [] }
  | i, (n, d) :: r, s => settled keep (i + 1) r (settle1 s n d (keep i))

theorem settled_line (keep : Nat → Int) : ∀ (r : List (Int × ByteArray)) (i : Nat) (s : DevS) (l : List (Int × ByteArray)), settled keep i r { s with line := l } = settled keep i r s
  | [], _, _, _ => rfl
  | (n, d) :: r, i, s, l => by
    unfold settled
    exact settled_line keep r (i + 1) (settle1 s n d (keep i)) l
theorem DevAt.drewN {w : World} {p : Nat} {s : DevS} {F : List Nat} (h : DevAt w p s F) (n : Nat) : DevAt (w.drewN n) p s F := h.kept ((Kept.refl [] w).drewN n) (by simp)
theorem DevAt.drew {w : World} {p : Nat} {s : DevS} {F : List Nat} (h : DevAt w p s F) : DevAt w.drew p s F := h.kept ((Kept.refl [] w).drew) (by simp)

theorem row_free {w : World} {base : Nat} {e : TypeId} {g n c m : Nat} {xs : List Value} (h : w.ownsRow base e 1 (.slice (some ⟨g, 0, none⟩) n c) m xs) (j : Nat) : w.frozen? ⟨g, j, none⟩ = false := by
  rcases h.2 with ⟨e1, _⟩ | ⟨g', cap, cur, e1, _, hg, _⟩
  · cases e1
  · simp only [Value.slice.injEq, Option.some.injEq, Addr.mk.injEq, and_true] at e1
    obtain ⟨rfl, _⟩ := e1
    exact frozen_of_row w g j cur e hg

theorem settle1_ok {s : DevS} {n : Int} {d : ByteArray} {r : List (Int × ByteArray)} {k : Int} (h : DevOK s) (hl : s.line = (n, d) :: r) : DevOK { settle1 s n d k with line := r } := by
  obtain ⟨h0, h1, h2⟩ := h.line (n, d) (by rw [hl]; simp)
  simp only at h0 h1 h2
  have hk : n.toNat < s.synced.length := by rw [h.len]; omega
  have hs : (s.synced.getD n.toNat ByteArray.empty).size = 256 := by
    rw [List.getD, List.getElem?_eq_getElem hk]
    exact h.synced _ (List.getElem_mem hk)
  have hm := mixB_size (keep := k) hs h2
  refine ⟨h.most, h.fuse, by simp [settle1, h.len], by simp [settle1, h.few], fun x hx => ?_, fun x hx => ?_, fun x hx => ?_⟩
  · rcases List.mem_or_eq_of_mem_set hx with h3 | h3
    · exact h.pages x h3
    · rw [h3]; exact hm
  · rcases List.mem_or_eq_of_mem_set hx with h3 | h3
    · exact h.synced x h3
    · rw [h3]; exact hm
  · simp only [settle1, List.length_set]
    exact h.line x (by rw [hl]; exact List.mem_cons_of_mem _ hx)

/-- Where the settling stands: k writes wait still. -/
def Settling (keep : Nat → Int) (s : DevS) (w : World) (p : Nat) (F : List Nat) (k : Nat) (pl : Value) (wr : World) : Prop :=
  ∃ (i : Nat) (si : DevS), i + k = s.line.length ∧ si.line.length = k ∧ pl = .int .i64 i ∧ DevAt wr p si F ∧ Kept F w wr ∧ settled keep i si.line si = settled keep 0 s.line s

end Go.Proofs.YthcpjpebahiikaaDoor
