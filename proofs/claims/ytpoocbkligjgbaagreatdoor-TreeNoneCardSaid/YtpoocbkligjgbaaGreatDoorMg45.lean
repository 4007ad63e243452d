/-
  Closed facts of the row of TreeNone.
-/
import Derived.Test.YtpoocbkligjgbaaGreatDoorMg42
import Derived.Test.YtpoocbkligjgbaaGreatDoorRows
import Derived.KernelRfl
namespace Go.Proofs.YtpoocbkligjgbaaGreatDoor
open Go.ChangeShapes Go.WideShapes Go.ChangeAt
set_option maxRecDepth 100000 in
theorem treeNone_j3 : jf3 Tryz.pinned.checked.prog 4 Rows.treeNoneRow = true := by kernel_rfl
end Go.Proofs.YtpoocbkligjgbaaGreatDoor
