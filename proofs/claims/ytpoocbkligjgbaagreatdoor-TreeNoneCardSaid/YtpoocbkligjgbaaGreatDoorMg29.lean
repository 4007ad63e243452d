/-
  How a list of children lies in memory, two cells each. The pieces of a value: over's Cut.
-/
import Derived.Test.YtpoocbkligjgbaaGreatDoorMg21
import Derived.Test.YtpoocbkligjgbaaGreatDoorMg1
import Derived.Test.YtpoocbkligjgbaaGreatDoorMg7
namespace Go.Proofs.YtpoocbkligjgbaaGreatDoor.BR
open Go.RowKit

def icells (x : Chd) : List Value := [.string x.key, .int .i64 x.page]
def ilist (l : List Chd) : List Value := l.flatMap icells
abbrev iagg (x : Chd) : Value := .agg #[.string x.key, .int .i64 x.page]
abbrev iobj (x : Chd) : Obj := .cells #[.string x.key, .int .i64 x.page] 204

theorem ilist_append (l m : List Chd) : ilist (l ++ m) = ilist l ++ ilist m := by simp [ilist]
theorem ilist_cons (x : Chd) (l : List Chd) : ilist (x :: l) = icells x ++ ilist l := by simp [ilist]
theorem length_ilist (l : List Chd) : (ilist l).length = l.length * 2 := by
  induction l with
  | nil => rfl
  | cons x l ih => rw [ilist_cons, List.length_append, ih, List.length_cons, Nat.add_mul]; simp [icells]; omega
theorem icells_one (x : Chd) : ∀ u ∈ icells x, u.oneCell' = true := by
  intro u hu
  simp [icells] at hu
  rcases hu with rfl | rfl <;> rfl
theorem ilist_one (l : List Chd) : ∀ u ∈ ilist l, u.oneCell' = true := by
  intro u hu
  obtain ⟨x, _, h⟩ := List.mem_flatMap.1 hu
  exact icells_one x u h
theorem ilist_at {l : List Chd} {i : Nat} (h : i < l.length) (j : Nat) (hj : j < 2) : (ilist l)[i * 2 + j]? = (icells l[i])[j]? := by
  have e : l = l.take i ++ l[i] :: l.drop (i + 1) := by rw [← List.drop_eq_getElem_cons h, List.take_append_drop]
  have ht : (l.take i).length = i := by simp; omega
  have e2 : ilist l = ilist (l.take i) ++ (icells l[i] ++ ilist (l.drop (i + 1))) := by
    conv => lhs; rw [e]
    rw [ilist_append, ilist_cons]
  have hlen : (icells l[i]).length = 2 := rfl
  rw [e2, List.getElem?_append_right (by rw [length_ilist, ht]; omega), length_ilist, ht, List.getElem?_append_left (by rw [hlen]; omega)]
  congr 1
  omega

/-- The cells of items at a place. -/
def ItsAt (w : World) (b off : Nat) (l : List Chd) : Prop :=
  ∀ i (h : i < l.length), w.cell? ⟨b, off + i * 2, none⟩ = some (.string l[i].key) ∧ w.cell? ⟨b, off + i * 2 + 1, none⟩ = some (.int .i64 l[i].page)
/-- v is a slice of the items l, in a block below B. -/
def ReadsIt (w : World) (B : Nat) (v : Value) (l : List Chd) : Prop :=
  ∃ (A : Option Addr) (c : Nat), v = .slice A l.length c ∧ l.length ≤ c ∧ c ≤ maxLen ∧ (A = none → l = [] ∧ c = 0) ∧ (0 < l.length → ∃ b off, A = some ⟨b, off, none⟩ ∧ b < B ∧ ItsAt w b off l)

theorem ItsAt.below {w w' : World} {B b off : Nat} {l : List Chd} (h : ItsAt w b off l) (hb : Below B w w') (hlt : b < B) : ItsAt w' b off l :=
  fun i hi => ⟨(hb.cell hlt).trans (h i hi).1, (hb.cell hlt).trans (h i hi).2⟩
theorem ItsAt.take {w : World} {b off : Nat} {l : List Chd} (h : ItsAt w b off l) (n : Nat) : ItsAt w b off (l.take n) := by
  intro i hi
  have hi' : i < l.length := by simp at hi; omega
  rw [List.getElem_take]
  exact h i hi'
theorem ItsAt.drop {w : World} {b off : Nat} {l : List Chd} (h : ItsAt w b off l) (n : Nat) : ItsAt w b (off + n * 2) (l.drop n) := by
  intro i hi
  have hi' : n + i < l.length := by simp at hi; omega
  have := h (n + i) hi'
  rw [List.getElem_drop]
  rw [Nat.add_mul, ← Nat.add_assoc] at this
  exact this
theorem ItsAt.list {w : World} {b off : Nat} {l : List Chd} (h : ItsAt w b off l) : ∀ j u, (ilist l)[j]? = some u → w.cell? ⟨b, off + j, none⟩ = some u := by
  intro j u hu
  have hj := (List.getElem?_eq_some_iff.1 hu).1
  rw [length_ilist] at hj
  have hi : j / 2 < l.length := by omega
  have e := ilist_at hi (j % 2) (by omega)
  have e1 : j / 2 * 2 + j % 2 = j := by omega
  have h4 := h (j / 2) hi
  rw [e1, hu] at e
  have h3 : j % 2 = 0 ∨ j % 2 = 1 := by omega
  rcases h3 with h3 | h3 <;> rw [h3] at e <;> simp [icells] at e <;> subst e
  · rw [← h4.1]; congr 2; omega
  · rw [← h4.2]; congr 2; omega
theorem itsAt_list {w : World} {b off : Nat} {l : List Chd} (h : ∀ j u, (ilist l)[j]? = some u → w.cell? ⟨b, off + j, none⟩ = some u) : ItsAt w b off l := by
  intro i hi
  have e (j : Nat) (hj : j < 2) : w.cell? ⟨b, off + (i * 2 + j), none⟩ = (icells l[i])[j]? := by
    rw [← ilist_at hi j hj]
    rw [h (i * 2 + j) ((ilist l)[i * 2 + j]'(by rw [length_ilist]; omega)) (List.getElem?_eq_getElem _), List.getElem?_eq_getElem]
  have e0 := e 0 (by omega)
  have e1 := e 1 (by omega)
  simp only [← Nat.add_assoc] at e0 e1
  exact ⟨e0, e1⟩

theorem ReadsIt.below {w w' : World} {B : Nat} {v : Value} {l : List Chd} (h : ReadsIt w B v l) (hb : Below B w w') : ReadsIt w' B v l := by
  obtain ⟨A, c, hv, hc, hm, hn, h⟩ := h
  refine ⟨A, c, hv, hc, hm, hn, fun h0 => ?_⟩
  obtain ⟨b, off, hA, hlt, hi⟩ := h h0
  exact ⟨b, off, hA, hlt, hi.below hb hlt⟩
theorem ReadsIt.mono {w : World} {B B' : Nat} {v : Value} {l : List Chd} (h : ReadsIt w B v l) (hB : B ≤ B') : ReadsIt w B' v l := by
  obtain ⟨A, c, hv, hc, hm, hn, h⟩ := h
  refine ⟨A, c, hv, hc, hm, hn, fun h0 => ?_⟩
  obtain ⟨b, off, hA, hlt, hi⟩ := h h0
  exact ⟨b, off, hA, by omega, hi⟩
theorem ReadsIt.grow {w w' : World} {B : Nat} {v : Value} {l : List Chd} (h : ReadsIt w B v l) (hb : Below B w w') (hB : B ≤ w'.heap.size) : ReadsIt w' w'.heap.size v l := (h.below hb).mono hB
theorem ReadsIt.form {w : World} {B : Nat} {v : Value} {l : List Chd} (h : ReadsIt w B v l) : ∃ A c, v = .slice A l.length c := by
  obtain ⟨A, c, hv, _⟩ := h
  exact ⟨A, c, hv⟩
theorem ReadsIt.nil_ (w : World) (B : Nat) : ReadsIt w B (.slice none 0 0) [] := ⟨none, 0, rfl, Nat.le_refl _, Nat.zero_le _, fun _ => ⟨rfl, rfl⟩, fun h => by simp at h⟩
/-- A row of the call's own reads. -/
theorem row_readsIt {base : Nat} {w : World} {v : Value} {l : List Chd} (h : w.ownsRow base 204 2 v l.length (ilist l)) : ReadsIt w w.heap.size v l := by
  rcases h.2 with ⟨rfl, h0⟩ | ⟨g, cap, cur, rfl, _, hg, hnc, hcm, _⟩
  · exact ⟨none, 0, by rw [h0], by omega, Nat.zero_le _, fun _ => ⟨List.eq_nil_of_length_eq_zero h0, rfl⟩, fun h1 => by omega⟩
  · refine ⟨some ⟨g, 0, none⟩, cap, rfl, hnc, hcm, (fun e => by cases e), fun _ => ⟨g, 0, rfl, lt_of_block hg, itsAt_list fun j u hu => ?_⟩⟩
    have hc := World.ownsRow.cells h rfl j u hu
    rw [Go.WideShapes.add_plain] at hc
    exact hc
/-- A new block of just some items. -/
theorem ReadsIt.built (w : World) (l : List Chd) (hm : l.length ≤ maxLen) : ReadsIt (w.alloc (.cells (ilist l).toArray 204)) (w.heap.size + 1) (.slice (some ⟨w.heap.size, 0, none⟩) l.length l.length) l := by
  refine ⟨some ⟨w.heap.size, 0, none⟩, l.length, rfl, Nat.le_refl _, hm, (fun e => by cases e), fun _ => ⟨w.heap.size, 0, rfl, by omega, itsAt_list fun j u hu => ?_⟩⟩
  rw [Nat.zero_add, (Has.made w 204 (ilist l).toArray).cell j]
  simpa using hu
theorem ReadsIt.take {w : World} {B b off : Nat} {l : List Chd} {c : Nat} (h : ReadsIt w B (.slice (some ⟨b, off, none⟩) l.length c) l) {n : Nat} (hn : n ≤ l.length) : ReadsIt w B (.slice (some ⟨b, off, none⟩) n c) (l.take n) := by
  obtain ⟨A, c', hv, hc, hm, _, h⟩ := h
  cases hv
  have ht : (l.take n).length = n := by simp; omega
  refine ⟨some ⟨b, off, none⟩, c, by rw [ht], by omega, hm, fun e => (by cases e), fun h0 => ?_⟩
  obtain ⟨b', off', hA, hlt, hi⟩ := h (by omega)
  cases hA
  exact ⟨b, off, rfl, hlt, hi.take n⟩
theorem ReadsIt.drop {w : World} {B b off : Nat} {l : List Chd} {c : Nat} (h : ReadsIt w B (.slice (some ⟨b, off, none⟩) l.length c) l) {n : Nat} (hn : n ≤ l.length) : ReadsIt w B (.slice (some ⟨b, off + n * 2, none⟩) (l.length - n) (c - n)) (l.drop n) := by
  obtain ⟨A, c', hv, hc, hm, _, h⟩ := h
  cases hv
  have ht : (l.drop n).length = l.length - n := by simp
  refine ⟨some ⟨b, off + n * 2, none⟩, c - n, by rw [ht], by omega, by omega, fun e => (by cases e), fun h0 => ?_⟩
  obtain ⟨b', off', hA, hlt, hi⟩ := h (by omega)
  cases hA
  exact ⟨b, off + n * 2, rfl, hlt, hi.drop n⟩
end Go.Proofs.YtpoocbkligjgbaaGreatDoor.BR

namespace Go.Proofs.YtpoocbkligjgbaaGreatDoor
open Go.RowKit Go.Lib

/-- How many pieces n bytes have, the k-th piece of s, and all of them. -/
def nP (n : Nat) : Nat := (n + 239) / 240
def pce (s : ByteArray) (k : Nat) : ByteArray := s.extract (240 * k) (min (240 * k + 240) s.size)

end Go.Proofs.YtpoocbkligjgbaaGreatDoor
