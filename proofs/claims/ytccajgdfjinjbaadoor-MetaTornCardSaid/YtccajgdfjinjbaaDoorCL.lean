/-
  strings.Clone by its contract.
-/
import Derived.Test.YtccajgdfjinjbaaDoorW1
import Derived.Test.YtccajgdfjinjbaaDoorShelf
namespace Go.Proofs.YtccajgdfjinjbaaDoor
open Go.RowKit Go.Lib

set_option maxHeartbeats 400000 in
theorem clone_any (s : ByteArray) (hs : s.size ≤ 281474976710656) (w : World) : Calls Tryd.prog 39 #[.string s] w fun e w' => e = .returned (.string s) ∧ Below w.heap.size w w' := by
  go_enter Tryd.func39, Tryd.ntmps39
  go_wp2_with (go_at_call 60; refine (Tryd.stringslite_Clone s _ hs).mono ?_; rintro e w' ⟨rfl, hb⟩)
  go_ret
  exact ⟨rfl, hb⟩

end Go.Proofs.YtccajgdfjinjbaaDoor
