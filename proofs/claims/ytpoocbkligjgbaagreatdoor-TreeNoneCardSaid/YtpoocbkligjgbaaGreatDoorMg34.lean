/-
  slices.Backward of texts: its closure, for every loop body that keeps what it reads.
-/
import Derived.Test.YtpoocbkligjgbaaGreatDoorMg1
import Derived.RangeFuncNested
import Derived.RangeFuncBound
import Derived.RangeFuncCalls
import Derived.RangeFuncLeaves
import Derived.RangeFuncBox
import Derived.Shelf.Abstract
import Derived.Shelf.RegionOpen
import Derived.OwnWalkIn
import Derived.TacticsInMore
import Derived.LoopNIn
import Derived.LoopIn
import Derived.Sort.QuietIn
namespace Go.Proofs.YtpoocbkligjgbaaGreatDoor
open Go.RowKit Go.Lib Go.Shelf

attribute [local go_sem] Oper.semAt_some

/-- The places of a slice from its last one on, j of them. -/
def backL (len j : Nat) : List Nat := (List.range j).map fun i => len - 1 - i
theorem backL_succ (len j : Nat) : backL len (j + 1) = backL len j ++ [len - 1 - j] := by simp [backL, List.range_succ]
theorem backL_length (len j : Nat) : (backL len j).length = j := by simp [backL]

/-- In block g, from off on, stand so many texts. -/
def TextsIn (g off len : Nat) (S : Nat → ByteArray) (W : World) : Prop := ∀ i, i < len → W.cell? ⟨g, off + i, none⟩ = some (.string (S i))
theorem TextsIn.kept {g off len : Nat} {S : Nat → ByteArray} {W W' : World} (h : TextsIn g off len S W) (hg : W'.heap[g]? = W.heap[g]?) : TextsIn g off len S W' := fun i hi => by
  rw [← h i hi]
  simp only [World.cell?]
  rw [hg]




end Go.Proofs.YtpoocbkligjgbaaGreatDoor
