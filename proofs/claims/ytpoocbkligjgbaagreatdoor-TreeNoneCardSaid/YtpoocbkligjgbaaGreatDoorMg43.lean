/-
  Closed facts of the row of TreeNone.
-/
import Derived.Test.YtpoocbkligjgbaaGreatDoorMg42
import Derived.Test.YtpoocbkligjgbaaGreatDoorRows
import Derived.KernelRfl
namespace Go.Proofs.YtpoocbkligjgbaaGreatDoor
open Go.ChangeShapes Go.WideShapes Go.ChangeAt
set_option maxRecDepth 100000 in
theorem treeNone_j2 : jf2 Tryz.pinned.checked.prog Tryz.f4 (OpenSpec.ofChange Rows.treeNoneSpec).bare Rows.treeNoneRow = true := by kernel_rfl
set_option maxRecDepth 100000 in
theorem treeNone_j7 : jf7 Tryz.pinned.checked.prog Tryz.f4 (OpenSpec.ofChange Rows.treeNoneSpec).bare Rows.treeNoneRow = true := by kernel_rfl
set_option maxRecDepth 100000 in
theorem treeNone_j8 : jf8 Tryz.pinned.checked.prog Tryz.f4 (OpenSpec.ofChange Rows.treeNoneSpec).bare Rows.treeNoneRow = true := by kernel_rfl
set_option maxRecDepth 100000 in
theorem treeNone_j9 : jf9 Tryz.pinned.checked.prog Tryz.f4 (OpenSpec.ofChange Rows.treeNoneSpec).bare Rows.treeNoneRow = true := by kernel_rfl
set_option maxRecDepth 100000 in
theorem treeNone_j11 : jf11 Tryz.pinned.checked.prog Tryz.f4 Rows.treeNoneRow = true := by kernel_rfl
set_option maxRecDepth 100000 in
theorem treeNone_j12 : jf12 Tryz.pinned.checked.prog Tryz.f4 (OpenSpec.ofChange Rows.treeNoneSpec).bare Rows.treeNoneRow = true := by kernel_rfl
end Go.Proofs.YtpoocbkligjgbaaGreatDoor
