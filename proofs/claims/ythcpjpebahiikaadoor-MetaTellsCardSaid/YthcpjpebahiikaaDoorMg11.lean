/-
  strings.Clone by its contract.
-/
import Derived.Test.YthcpjpebahiikaaDoorMg1
import Derived.Test.YthcpjpebahiikaaDoorShelf
namespace Go.Proofs.YthcpjpebahiikaaDoor
open Go.RowKit Go.Lib

set_option maxHeartbeats 400000 in
theorem tclone_any (s : ByteArray) (hs : s.size ≤ 281474976710656) (w : World) : Calls Tryd.prog 34 #[.string s] w fun e w' => e = .returned (.string s) ∧ Below w.heap.size w w' := by
  go_enter Tryd.func34, Tryd.ntmps34
  go_wp2_with (go_at_call 52; refine (Tryd.stringslite_Clone s _ hs).mono ?_; rintro e w' ⟨rfl, hb⟩)
  go_ret
  exact ⟨rfl, hb⟩

end Go.Proofs.YthcpjpebahiikaaDoor
