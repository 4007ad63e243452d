/-
  Walks over package dev's line of waiting writes: a write is put, the line is widened, a twin is made. Walks over package dev's line of waiting writes: a write is put whatever room there is; a twin is made.
-/
import Derived.Test.YtlignamakiiokaaGreatDoorMg11
import Derived.Deep.LoopGhost
import Derived.Conc.SmallLaws
namespace Go.Proofs.YtlignamakiiokaaGreatDoor
open Go.RowKit Go.Lib



theorem LineAt.off {w : World} {g : Nat} {t : TypeId} {cs : Array Value} {o : Nat} {l : List (Int × ByteArray)} {cap : Nat} {ch : Option Nat} (h : LineAt w g t cs o l cap ch) : o < cs.size := (Array.getElem?_eq_some_iff.1 h.cell).1



end Go.Proofs.YtlignamakiiokaaGreatDoor

namespace Go.Proofs.YtlignamakiiokaaGreatDoor
open Go.RowKit Go.Lib






theorem LineAt.chlt {w : World} {g : Nat} {t : TypeId} {cs : Array Value} {o : Nat} {l : List (Int × ByteArray)} {cap c : Nat} (h : LineAt w g t cs o l cap (some c)) : c < w.heap.size := by
  obtain ⟨s1, r1, h1⟩ := h.full c rfl
  exact (Array.getElem?_eq_some_iff.1 h1).1
end Go.Proofs.YtlignamakiiokaaGreatDoor
