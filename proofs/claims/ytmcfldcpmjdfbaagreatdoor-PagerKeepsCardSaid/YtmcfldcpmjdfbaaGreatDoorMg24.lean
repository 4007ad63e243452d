/-
  strings.Clone by its contract.
-/
import Derived.Test.YtmcfldcpmjdfbaaGreatDoorMg1
import Derived.Test.YtmcfldcpmjdfbaaGreatDoorShelf
namespace Go.Proofs.YtmcfldcpmjdfbaaGreatDoor
open Go.RowKit Go.Lib

set_option maxHeartbeats 400000 in
theorem tclone_any (s : ByteArray) (hs : s.size ≤ 281474976710656) (w : World) : Calls Tryz.prog 38 #[.string s] w fun e w' => e = .returned (.string s) ∧ Below w.heap.size w w' := by
  go_enter Tryz.func38, Tryz.ntmps38
  go_wp2_with (go_at_call 69; refine (Tryz.stringslite_Clone s _ hs).mono ?_; rintro e w' ⟨rfl, hb⟩)
  go_ret
  exact ⟨rfl, hb⟩

end Go.Proofs.YtmcfldcpmjdfbaaGreatDoor
