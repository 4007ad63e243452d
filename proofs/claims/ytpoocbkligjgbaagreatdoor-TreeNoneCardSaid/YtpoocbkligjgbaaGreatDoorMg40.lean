/-
  What a law's proof over a row that lists variables opens with, the witness laid by a law: for rows that list pinned tables.
-/
import Derived.Test.YtpoocbkligjgbaaGreatDoorMg17
import Derived.Test.YtpoocbkligjgbaaGreatDoorCards
import Derived.Test.YtpoocbkligjgbaaGreatDoorTie
import Derived.LaidMore
import Derived.Lay
import Derived.Deep.DeepHandedRow
import Derived.Deep.Strs
namespace Go.Proofs.YtpoocbkligjgbaaGreatDoor
open Go.ChangeShapes Go.WideShapes Go.ChangeAt Go.RowKit

noncomputable def laidWorld (os : Os) : World := World.laidAll Tryz.prog os Rows.treePlaysRow.laid
theorem laid_os (os : Os) : (laidWorld os).os = os := World.laidAll_os _ _ _
theorem laid_met (os : Os) (args : Array Value) : laidMetH Tryz.prog Rows.treePlaysRow.laid ((laidWorld os).forCall (fun _ _ => 0) ⟨#[], args, []⟩).memory := by
  rw [MakeChecks.laidMetH_plain _ _ _ (by kernel_rfl)]
  exact laidMet_laidAll _ (by kernel_rfl) (by kernel_rfl)

section
variable {H : Type} {enc : TypeId × Value → H} {W : World} {r : Reach} {b0 : Nat} {sp : Nat → Bool} {v : Value} {d : DataW H} {ps : List MemPlace}
set_option maxRecDepth 100000 in
/-- A page that came in. -/
theorem open_page (hv : Value.okWide Tryz.prog W r b0 60 v) (hd : DataW.Trod enc Tryz.prog W 0 sp true 60 v d ps) :
    ∃ (k n : Int) (s : ByteArray), v = .agg #[.int .i64 k, .int .i64 n, .string s] ∧ d = .agg [.lit (.int .i64 k), .lit (.int .i64 n), .lit (.string s.data.toList)] ∧ ps = [] ∧ (Lit.int .i64 k).wf = true ∧ (Lit.int .i64 n).wf = true ∧ s.size ≤ maxLen := by
  obtain ⟨cs, rfl, hc⟩ := okWide_struct Tryz.underlying60 hv
  obtain ⟨fuel, hf⟩ := hd
  obtain ⟨y0, y1, y2, n, hx, hl, h0, h1, h2⟩ := Go.Deep.trod_struct3 Tryz.underlying60 hf
  have c1 : Tryz.prog.cellsOf 3 = 1 := by kernel_rfl
  have c2 : Tryz.prog.cellsOf 9 = 1 := by kernel_rfl
  have c3 : Tryz.prog.cellsOf 60 = 3 := by kernel_rfl
  rw [c3] at hc
  obtain ⟨k0, e0, f0, w0⟩ := DataW.trod_int Tryz.underlying3 h0
  obtain ⟨k1, e1, f1, w1⟩ := DataW.trod_int Tryz.underlying3 h1
  obtain ⟨s2, e2, f2, w2⟩ := DataW.trod_string Tryz.underlying9 h2
  simp only [Value.cells, c1, c2] at e0 e1 e2
  have hcs : cs = #[.int .i64 k0, .int .i64 k1, .string s2] := by
    match cs, hc with
    | ⟨[a, b, c]⟩, _ => simp at e0 e1 e2; simp [e0, e1, e2]
  subst hcs f0 f1 f2
  simp only [Prod.mk.injEq] at hx
  obtain ⟨rfl, rfl⟩ := hx
  exact ⟨k0, k1, s2, rfl, rfl, rfl, w0, w1, w2⟩
end
end Go.Proofs.YtpoocbkligjgbaaGreatDoor
