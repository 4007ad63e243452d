/-
  A region that draws its order, whose operations only read, and whose callees make memory and turn nothing that was there: walked once, in the order of the text.
-/
import Derived.Test.YtpoocbkligjgbaaGreatDoorMg1
import Derived.Deep.QuietTactic
import Derived.BigQuiet
namespace Go.Proofs.YtpoocbkligjgbaaGreatDoor
open Go.RowKit

/-- How far such a world is from w: where the draws stand, and the blocks that came. -/
structure GB where
  d : Nat
  os : Array Obj
  deriving Inhabited
def gw (w : World) (d : Nat) (os : Array Obj) : World := { w with drawn := d, heap := w.heap ++ os }
theorem gw_below (w : World) (d : Nat) (os : Array Obj) : Below w.heap.size w (gw w d os) :=
  ⟨rfl, rfl, rfl, by simp [gw], fun k hk => by simp [gw, Array.getElem?_append_left hk]⟩
theorem gw_of_below {w w' : World} (h : Below w.heap.size w w') : ∃ p : GB, w' = gw w p.d p.os := by
  obtain ⟨h1, h2, h3, h4, h5⟩ := h
  refine ⟨⟨w'.drawn, w'.heap.extract w.heap.size w'.heap.size⟩, ?_⟩
  obtain ⟨heap', tape', drawn', os', out'⟩ := w'
  obtain ⟨heap, tape, drawn, os, out⟩ := w
  simp only at h1 h2 h3 h4 h5
  subst h1 h2 h3
  simp only [gw, World.mk.injEq, and_true]
  apply Array.ext_getElem?
  intro k
  by_cases hk : k < heap.size
  · rw [h5 k hk, Array.getElem?_append_left hk]
  · rw [Array.getElem?_append_right (by omega)]
    by_cases hk2 : k < heap'.size
    · rw [Array.getElem?_extract, if_pos (by omega)]
      congr 1
      omega
    · rw [Array.getElem?_eq_none (by omega), Array.getElem?_eq_none (by simp; omega)]
theorem gw_to {w w' : World} (h : ∃ p : GB, w' = gw w p.d p.os) : Below w.heap.size w w' := by
  obtain ⟨p, rfl⟩ := h
  exact gw_below _ _ _
/-- A cell of an old block, in every such world. -/
theorem cell_gw {w : World} {a : Addr} {v : Value} (h : w.cell? a = some v) (d : Nat) (os : Array Obj) : (gw w d os).cell? a = some v :=
  (Below.cell (gw_below w d os) (World.block_lt_of_cell? w _ h)).trans h
theorem Calls.gw_of {P : Program} {f : FuncId} {args : Array Value} {w : World} {d : Nat} {os : Array Obj} {v : Value}
    (h : Calls P f args (gw w d os) fun e w' => e = .returned v ∧ Below (gw w d os).heap.size (gw w d os) w') : Calls P f args (gw w d os) fun e w'' => e = .returned v ∧ ∃ p : GB, w'' = gw w p.d p.os :=
  h.mono fun _ _ ⟨he, hb⟩ => ⟨he, gw_of_below ((gw_below w d os).trans (hb.mono (gw_below w d os).size))⟩
/-- Such a walk, behind a name that is not unfolded by the way. -/
structure WQ (P : Program) (ops : Array Oper) (C : World → Prop) (Q : Act → Prop) (rest : List Oper) (a : Act) : Prop where
  out : wpQuiet P ops C Q rest a
section
variable {P : Program} {ops : Array Oper} {C : World → Prop} {Q : Act → Prop} {a : Act}
theorem wq_nil (h : Q a) : WQ P ops C Q [] a := ⟨wpQuiet_nil h⟩
theorem wq_step {o : Oper} {rest : List Oper} (h : ∀ K : Act → Prop, (∀ a, WQ P ops C Q rest a → K a) → if Region.wanted o (yielded ops a.tmps) then o.quiet P a C K else K (a.put o.dst undef)) : WQ P ops C Q (o :: rest) a :=
  ⟨wpQuiet_step fun K hK => h K fun a' h' => hK a' h'.out⟩
end
theorem wp_region_gw {P : Program} {id : Nat} {Q : Exit → Act → World → Prop} {a : Act} {w : World} {l : List Oper} (hm : P.follows .mixedOrders = true) (hB : Region.lexB .any l.toArray = true)
    (h : WQ P l.toArray (fun w' => ∃ p : GB, w' = gw w p.d p.os) (fun a' => ∀ w', (∃ p : GB, w' = gw w p.d p.os) → Q .normal a' w') l a) : (Code.region id l.toArray true).wp P Q a w :=
  wp_region_quiet (C := fun w' => ∃ p : GB, w' = gw w p.d p.os) hm hB ⟨⟨w.drawn + 1, #[]⟩, by simp [gw]⟩ (by simpa using h.out)
end Go.Proofs.YtpoocbkligjgbaaGreatDoor
