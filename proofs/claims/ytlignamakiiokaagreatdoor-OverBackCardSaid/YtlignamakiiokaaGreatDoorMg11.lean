/-
  Walks over package dev's line of waiting writes: a channel that is asked by a select with a default.
-/
import Derived.Test.YtlignamakiiokaaGreatDoorMg2
import Derived.Conc.LoneSelect
import Derived.Conc.LoneSelectN
import Derived.LoopN
namespace Go.Proofs.YtlignamakiiokaaGreatDoor
open Go.RowKit Go.Lib

/-- A write that waits, as a value. -/
def wv (x : Int × ByteArray) : Value := .agg #[.int .i64 x.1, .string x.2]
def chanOf (cap : Nat) (l : List (Int × ByteArray)) (s r : Nat) : Obj := .chan cap (l.map wv).toArray false s r false

/-- In cell o of block g, which has the cells cs of type t, stands a line: l waits in it, there is room for cap. -/
structure LineAt (w : World) (g : Nat) (t : TypeId) (cs : Array Value) (o : Nat) (l : List (Int × ByteArray)) (cap : Nat) (ch : Option Nat) : Prop where
  has : Has w g t cs
  cell : cs[o]? = some (.chan ch)
  nil_ : ch = none → l = [] ∧ cap = 0
  full : ∀ c, ch = some c → ∃ s r, w.heap[c]? = some (chanOf cap l s r)
  le : l.length ≤ cap
  wide : ∀ c, ch = some c → 16 ≤ cap

theorem LineAt.ne {w : World} {g : Nat} {t : TypeId} {cs : Array Value} {o : Nat} {l : List (Int × ByteArray)} {cap c : Nat} (h : LineAt w g t cs o l cap (some c)) : g ≠ c := by
  intro e
  subst e
  obtain ⟨s, r, h2⟩ := h.full _ rfl
  have h1 := h.has
  unfold Has at h1
  rw [h1] at h2
  cases h2

theorem LineAt.kept {w w1 : World} {F : List Nat} {g : Nat} {t : TypeId} {cs : Array Value} {o : Nat} {l : List (Int × ByteArray)} {cap : Nat} {ch : Option Nat} (h : LineAt w g t cs o l cap ch) (hk : Kept F w w1) (hg : g ∉ F) (hc : ∀ c, ch = some c → c ∉ F) :
    LineAt w1 g t cs o l cap ch := by
  refine ⟨h.has.kept hk hg, h.cell, h.nil_, fun c e => ?_, h.le, h.wide⟩
  obtain ⟨s, r, h2⟩ := h.full c e
  exact ⟨s, r, chan_kept h2 hk (hc c e)⟩




end Go.Proofs.YtlignamakiiokaaGreatDoor
