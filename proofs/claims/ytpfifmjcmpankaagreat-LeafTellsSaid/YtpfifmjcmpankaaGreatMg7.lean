/-
  strings.Clone by its contract.
-/
import Derived.Test.YtpfifmjcmpankaaGreatMg1
import Derived.Test.YtpfifmjcmpankaaGreatShelf
namespace Go.Proofs.YtpfifmjcmpankaaGreat
open Go.RowKit Go.Lib

set_option maxHeartbeats 400000 in
theorem tclone_any (s : ByteArray) (hs : s.size ≤ 281474976710656) (w : World) : Calls Tryz.prog 138 #[.string s] w fun e w' => e = .returned (.string s) ∧ Below w.heap.size w w' := by
  go_enter Tryz.func138, Tryz.ntmps138
  go_wp2_with (go_at_call 167; refine (Tryz.stringslite_Clone s _ hs).mono ?_; rintro e w' ⟨rfl, hb⟩)
  go_ret
  exact ⟨rfl, hb⟩

end Go.Proofs.YtpfifmjcmpankaaGreat
