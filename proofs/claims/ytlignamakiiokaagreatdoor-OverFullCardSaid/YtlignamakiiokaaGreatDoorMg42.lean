/-
  What a law's proof over a row that lists variables opens with, the witness laid by a law: for rows that list pinned tables.
-/
import Derived.Test.YtlignamakiiokaaGreatDoorMg31
import Derived.Test.YtlignamakiiokaaGreatDoorCards
import Derived.Test.YtlignamakiiokaaGreatDoorTie
import Derived.LaidMore
import Derived.Lay
import Derived.Deep.DeepHandedRow
import Derived.Deep.Strs
namespace Go.Proofs.YtlignamakiiokaaGreatDoor
open Go.ChangeShapes Go.WideShapes Go.ChangeAt Go.RowKit

noncomputable def laidWorld (os : Os) : World := World.laidAll Tryz.prog os Rows.overPlaysRow.laid
theorem laid_os (os : Os) : (laidWorld os).os = os := World.laidAll_os _ _ _
theorem laid_met (os : Os) (args : Array Value) : laidMetH Tryz.prog Rows.overPlaysRow.laid ((laidWorld os).forCall (fun _ _ => 0) ⟨#[], args, []⟩).memory := by
  rw [MakeChecks.laidMetH_plain _ _ _ (by kernel_rfl)]
  exact laidMet_laidAll _ (by kernel_rfl) (by kernel_rfl)

section
variable {H : Type} {enc : TypeId × Value → H} {W : World} {r : Reach} {b0 : Nat} {sp : Nat → Bool} {v : Value} {d : DataW H} {ps : List MemPlace}
end
end Go.Proofs.YtlignamakiiokaaGreatDoor
