/-
  What a law's proof over a row that lists variables opens with, the witness laid by a law: for rows that list pinned tables.
-/
import Derived.Test.YtlignamakiiokaaGreatDoorMg1
import Derived.Test.YtlignamakiiokaaGreatDoorRows
import Derived.ProofKit
import Derived.OpenShut
import Derived.Deep.DeepHandedRow
import Derived.Test.YtlignamakiiokaaGreatDoorCards
import Derived.Test.YtlignamakiiokaaGreatDoorTie
import Derived.LaidMore
import Derived.Lay
import Derived.Deep.Strs
namespace Go.Proofs.YtlignamakiiokaaGreatDoor
open Go.ChangeShapes Go.WideShapes Go.ChangeAt Go.RowKit

noncomputable def laidWorld (os : Os) : World := World.laidAll Tryz.prog os Rows.overPlaysRow.laid

section
variable {H : Type} {enc : TypeId × Value → H} {W : World} {r : Reach} {b0 : Nat} {sp : Nat → Bool} {v : Value} {d : DataW H} {ps : List MemPlace}
end
end Go.Proofs.YtlignamakiiokaaGreatDoor
