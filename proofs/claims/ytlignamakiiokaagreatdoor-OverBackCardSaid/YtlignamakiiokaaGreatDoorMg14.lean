/-
  Walks: what stays of a write, sector by sector.
-/
import Derived.Test.YtlignamakiiokaaGreatDoorMg13
import Derived.Laws.BitsLemmas
namespace Go.Proofs.YtlignamakiiokaaGreatDoor
open Go.RowKit Go.Lib

/-- Does keep bear bit i? -/
def kept (keep : Int) (i : Nat) : Bool := decide (keep / 2 ^ i % 2 = 1)






end Go.Proofs.YtlignamakiiokaaGreatDoor
