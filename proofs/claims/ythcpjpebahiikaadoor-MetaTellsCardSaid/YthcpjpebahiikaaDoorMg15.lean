/-
  Walks: the waiting of all writes ends (settle).
-/
import Derived.Test.YthcpjpebahiikaaDoorMg14
import Derived.Test.YthcpjpebahiikaaDoorMg1
import Derived.OrdersHeld
namespace Go.Proofs.YthcpjpebahiikaaDoor
open Go.RowKit Go.Lib


theorem DevAt.drewN {w : World} {p : Nat} {s : DevS} {F : List Nat} (h : DevAt w p s F) (n : Nat) : DevAt (w.drewN n) p s F := h.kept ((Kept.refl [] w).drewN n) (by simp)
theorem DevAt.drew {w : World} {p : Nat} {s : DevS} {F : List Nat} (h : DevAt w p s F) : DevAt w.drew p s F := h.kept ((Kept.refl [] w).drew) (by simp)




end Go.Proofs.YthcpjpebahiikaaDoor
