/-
  How a list of things that are done (two numbers and a page each) reads where it came in.
-/
import Derived.Test.YtpoocbkligjgbaaGreatDoorMg17
import Derived.Deep.Slices
import Derived.Deep.Strs
namespace Go.Proofs.YtpoocbkligjgbaaGreatDoor
open Go.ChangeShapes Go.WideShapes Go.ChangeAt Go.RowKit

/-- One thing that is done: its kind, its number, its page. -/
structure POp where
  k : Int
  n : Int
  pk : Int
  pn : Int
  t : ByteArray

def POp.ok (o : POp) : Prop := IsInt o.k ∧ IsInt o.n ∧ IsInt o.pk ∧ IsInt o.pn ∧ o.t.size ≤ 9223372036854775807

/-- v is a slice of the things os, five cells each. -/
def ReadsPOps (W : World) (B : Nat) (v : Value) (os : List POp) : Prop :=
  ∃ (A : Option Addr) (c : Nat), v = .slice A os.length c ∧ (0 < os.length → ∃ b off, A = some ⟨b, off, none⟩ ∧ b < B ∧
    ∀ i (h : i < os.length), W.cell? ⟨b, off + i * 5, none⟩ = some (.int .i64 os[i].k) ∧ W.cell? ⟨b, off + i * 5 + 1, none⟩ = some (.int .i64 os[i].n) ∧ W.cell? ⟨b, off + i * 5 + 2, none⟩ = some (.int .i64 os[i].pk) ∧
      W.cell? ⟨b, off + i * 5 + 3, none⟩ = some (.int .i64 os[i].pn) ∧ W.cell? ⟨b, off + i * 5 + 4, none⟩ = some (.string os[i].t))
theorem ReadsPOps.below {W W' : World} {B : Nat} {v : Value} {os : List POp} (h : ReadsPOps W B v os) (hb : Below B W W') : ReadsPOps W' B v os := by
  obtain ⟨A, c, rfl, h⟩ := h
  refine ⟨A, c, rfl, fun h0 => ?_⟩
  obtain ⟨b, off, rfl, hlt, hc⟩ := h h0
  exact ⟨b, off, rfl, hlt, fun i hi => ⟨(hb.cell hlt).trans (hc i hi).1, (hb.cell hlt).trans (hc i hi).2.1, (hb.cell hlt).trans (hc i hi).2.2.1, (hb.cell hlt).trans (hc i hi).2.2.2.1, (hb.cell hlt).trans (hc i hi).2.2.2.2⟩⟩
theorem ReadsPOps.at {W : World} {B : Nat} {v : Value} {os : List POp} (h : ReadsPOps W B v os) (i : Nat) (hi : i < os.length) : ∃ b off c, v = .slice (some ⟨b, off, none⟩) os.length c ∧ b < B ∧
    W.cell? ⟨b, off + i * 5, none⟩ = some (.int .i64 os[i].k) ∧ W.cell? ⟨b, off + i * 5 + 1, none⟩ = some (.int .i64 os[i].n) ∧ W.cell? ⟨b, off + i * 5 + 2, none⟩ = some (.int .i64 os[i].pk) ∧
      W.cell? ⟨b, off + i * 5 + 3, none⟩ = some (.int .i64 os[i].pn) ∧ W.cell? ⟨b, off + i * 5 + 4, none⟩ = some (.string os[i].t) := by
  obtain ⟨A, c, rfl, h⟩ := h
  obtain ⟨b, off, rfl, hlt, hc⟩ := h (by omega)
  exact ⟨b, off, c, rfl, hlt, hc i hi⟩
theorem ReadsPOps.form {W : World} {B : Nat} {v : Value} {os : List POp} (h : ReadsPOps W B v os) : ∃ A c, v = .slice A os.length c := by
  obtain ⟨A, c, rfl, _⟩ := h
  exact ⟨A, c, rfl⟩

section
variable {H : Type} {enc : TypeId × Value → H} {W : World} {r : Reach} {b0 : Nat} {sp : Nat → Bool} {v : Value} {d : DataW H} {ps : List MemPlace}

end
end Go.Proofs.YtpoocbkligjgbaaGreatDoor
