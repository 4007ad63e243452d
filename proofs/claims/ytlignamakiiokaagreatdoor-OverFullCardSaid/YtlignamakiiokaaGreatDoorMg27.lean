/-
  A pager's lists of what was made and dropped: a range over its map, sorted.
-/
import Derived.Test.YtlignamakiiokaaGreatDoorMg24
import Derived.Test.YtlignamakiiokaaGreatDoorMg26
namespace Go.Proofs.YtlignamakiiokaaGreatDoor
open Go.RowKit Go.Sort Go.Maps



/-- The numbers of a fate, rising. -/
def Fated (H : Int → Chg) (f : Int) (L : List Int) : Prop := L.Pairwise (· < ·) ∧ (∀ x ∈ L, IsInt x) ∧ ∀ x, x ∈ L ↔ (H x).fate = f

section
variable {p pd pf b : Nat} {s : PgS} {F : List Nat} {w : World}
end
end Go.Proofs.YtlignamakiiokaaGreatDoor
