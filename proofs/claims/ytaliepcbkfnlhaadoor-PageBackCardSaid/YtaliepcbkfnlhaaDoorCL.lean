/-
  strings.Clone by its contract.
-/
import Derived.Test.YtaliepcbkfnlhaaDoorW1
import Derived.Test.YtaliepcbkfnlhaaDoorShelf
namespace Go.Proofs.YtaliepcbkfnlhaaDoor
open Go.RowKit Go.Lib

set_option maxHeartbeats 400000 in
theorem clone_any (s : ByteArray) (hs : s.size ≤ 281474976710656) (w : World) : Calls Tryd.prog 19 #[.string s] w fun e w' => e = .returned (.string s) ∧ Below w.heap.size w w' := by
  go_enter Tryd.func19, Tryd.ntmps19
  go_wp2_with (go_at_call 36; refine (Tryd.stringslite_Clone s _ hs).mono ?_; rintro e w' ⟨rfl, hb⟩)
  go_ret
  exact ⟨rfl, hb⟩

end Go.Proofs.YtaliepcbkfnlhaaDoor
