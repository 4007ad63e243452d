/-
  Walks over the statements' book, of numbers: lists with room behind them, in which a mark stands; are two lists alike? append of what came in.
-/
import Derived.Test.YtlignamakiiokaaGreatDoorMg3
import Derived.Test.YtlignamakiiokaaGreatDoorMg7
import Derived.Laws.AppendOwnNone
import Derived.Laws.OwnMore
import Derived.Deep.QuietTactic
import Derived.BigQuiet
namespace Go.Proofs.YtlignamakiiokaaGreatDoor
open Go.RowKit


/-- v is a list of the values vals with room behind them, and there the mark. -/
def Lent (w : World) (base : Nat) (vals : List Value) (mark v : Value) : Prop :=
  ∃ g cap, v = .slice (some ⟨g, 0, none⟩) vals.length cap ∧ base ≤ g ∧ g < w.heap.size ∧ vals.length + 1 ≤ cap ∧ cap ≤ maxLen ∧ ∀ j u, (vals ++ [mark])[j]? = some u → w.cell? ⟨g, j, none⟩ = some u

theorem Lent.below {w w' : World} {base B : Nat} {vals : List Value} {mark v : Value} (h : Lent w base vals mark v) (hb : Below B w w') (hB : w.heap.size ≤ B) : Lent w' base vals mark v := by
  obtain ⟨g, cap, rfl, h1, h2, h3, h4, h5⟩ := h
  exact ⟨g, cap, rfl, h1, Nat.lt_of_lt_of_le h2 hb.size, h3, h4, fun j u hu => (hb.cell (p := ⟨g, j, none⟩) (Nat.lt_of_lt_of_le h2 hB)).trans (h5 j u hu)⟩
theorem Lent.reads {w : World} {base : Nat} {vals : List Value} {mark v : Value} (h : Lent w base vals mark v) : Reads1 w w.heap.size v vals := by
  obtain ⟨g, cap, rfl, h1, h2, h3, h4, h5⟩ := h
  refine ⟨_, _, rfl, fun _ => ⟨g, 0, rfl, h2, fun j u hu => ?_⟩⟩
  rw [Nat.zero_add]
  refine h5 j u ?_
  rw [List.getElem?_append_left]
  · exact hu
  · exact (List.getElem?_eq_some_iff.1 hu).1

section
variable {ops : Array Oper} {rest : List Oper} {o : Oper} {a : Act} {Q : Exit → Act → World → Prop}

end


section
variable {ops : Array Oper} {rest : List Oper} {o : Oper} {a : Act} {Q : Exit → Act → World → Prop}
end

theorem int_one {l : List Int} : ∀ u ∈ l.map (Value.int .i64), u.oneCell' = true := by
  intro u hu
  obtain ⟨x, _, rfl⟩ := List.mem_map.1 hu
  rfl


end Go.Proofs.YtlignamakiiokaaGreatDoor
