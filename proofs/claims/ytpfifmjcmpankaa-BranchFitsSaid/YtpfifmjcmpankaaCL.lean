/-
  strings.Clone by its contract.
-/
import Derived.Test.YtpfifmjcmpankaaW1
import Derived.Test.YtpfifmjcmpankaaShelf
namespace Go.Proofs.Ytpfifmjcmpankaa
open Go.RowKit Go.Lib

set_option maxHeartbeats 400000 in
theorem tclone_any (s : ByteArray) (hs : s.size ≤ 281474976710656) (w : World) : Calls Try.prog 38 #[.string s] w fun e w' => e = .returned (.string s) ∧ Below w.heap.size w w' := by
  go_enter Try.func38, Try.ntmps38
  go_wp2_with (go_at_call 45; refine (Try.stringslite_Clone s _ hs).mono ?_; rintro e w' ⟨rfl, hb⟩)
  go_ret
  exact ⟨rfl, hb⟩

end Go.Proofs.Ytpfifmjcmpankaa
