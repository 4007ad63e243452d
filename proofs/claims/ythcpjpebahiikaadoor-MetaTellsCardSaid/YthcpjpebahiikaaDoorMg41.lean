/-
  What a law's proof over a row that lists variables opens with, the witness laid by a law: for rows that list pinned tables.
-/
import Derived.Test.YthcpjpebahiikaaDoorMg40
import Derived.Test.YthcpjpebahiikaaDoorCards
import Derived.Test.YthcpjpebahiikaaDoorTie
import Derived.LaidMore
import Derived.Lay
import Derived.Deep.DeepHandedRow
import Derived.Deep.Strs
namespace Go.Proofs.YthcpjpebahiikaaDoor
open Go.ChangeShapes Go.WideShapes Go.ChangeAt Go.RowKit

noncomputable def laidWorld (os : Os) : World := World.laidAll Tryd.prog os Rows.metaTellsRow.laid
theorem laid_os (os : Os) : (laidWorld os).os = os := World.laidAll_os _ _ _
theorem laid_met (os : Os) (args : Array Value) : laidMetH Tryd.prog Rows.metaTellsRow.laid ((laidWorld os).forCall (fun _ _ => 0) ⟨#[], args, []⟩).memory := by
  rw [MakeChecks.laidMetH_plain _ _ _ (by kernel_rfl)]
  exact laidMet_laidAll _ (by kernel_rfl) (by kernel_rfl)

section
variable {H : Type} {enc : TypeId × Value → H} {W : World} {r : Reach} {b0 : Nat} {sp : Nat → Bool} {v : Value} {d : DataW H} {ps : List MemPlace}
set_option maxRecDepth 100000 in
/-- A page that came in. -/
theorem open_page (hv : Value.okWide Tryd.prog W r b0 50 v) (hd : DataW.Trod enc Tryd.prog W 0 sp true 50 v d ps) :
    ∃ (k n : Int) (s : ByteArray), v = .agg #[.int .i64 k, .int .i64 n, .string s] ∧ d = .agg [.lit (.int .i64 k), .lit (.int .i64 n), .lit (.string s.data.toList)] ∧ ps = [] ∧ (Lit.int .i64 k).wf = true ∧ (Lit.int .i64 n).wf = true ∧ s.size ≤ maxLen := by
  obtain ⟨cs, rfl, hc⟩ := okWide_struct Tryd.underlying50 hv
  obtain ⟨fuel, hf⟩ := hd
  obtain ⟨y0, y1, y2, n, hx, hl, h0, h1, h2⟩ := Go.Deep.trod_struct3 Tryd.underlying50 hf
  have c1 : Tryd.prog.cellsOf 3 = 1 := by kernel_rfl
  have c2 : Tryd.prog.cellsOf 9 = 1 := by kernel_rfl
  have c3 : Tryd.prog.cellsOf 50 = 3 := by kernel_rfl
  rw [c3] at hc
  obtain ⟨k0, e0, f0, w0⟩ := DataW.trod_int Tryd.underlying3 h0
  obtain ⟨k1, e1, f1, w1⟩ := DataW.trod_int Tryd.underlying3 h1
  obtain ⟨s2, e2, f2, w2⟩ := DataW.trod_string Tryd.underlying9 h2
  simp only [Value.cells, c1, c2] at e0 e1 e2
  have hcs : cs = #[.int .i64 k0, .int .i64 k1, .string s2] := by
    match cs, hc with
    | ⟨[a, b, c]⟩, _ => simp at e0 e1 e2; simp [e0, e1, e2]
  subst hcs f0 f1 f2
  simp only [Prod.mk.injEq] at hx
  obtain ⟨rfl, rfl⟩ := hx
  exact ⟨k0, k1, s2, rfl, rfl, rfl, w0, w1, w2⟩
set_option maxRecDepth 100000 in
/-- A meta that came in. -/
theorem open_meta (hv : Value.okWide Tryd.prog W r b0 23 v) (hd : DataW.Trod enc Tryd.prog W 0 sp true 23 v d ps) :
    ∃ (k0 k1 k2 k3 : Int), v = .agg #[.int .i64 k0, .int .i64 k1, .int .i64 k2, .int .i64 k3] ∧ d = .agg [.lit (.int .i64 k0), .lit (.int .i64 k1), .lit (.int .i64 k2), .lit (.int .i64 k3)] ∧ ps = [] ∧
      (Lit.int .i64 k0).wf = true ∧ (Lit.int .i64 k1).wf = true ∧ (Lit.int .i64 k2).wf = true ∧ (Lit.int .i64 k3).wf = true := by
  obtain ⟨cs, rfl, hc⟩ := okWide_struct Tryd.underlying23 hv
  obtain ⟨fuel, hf⟩ := hd
  obtain ⟨xs, n, _, hx, hl, hlen, hg⟩ := DataW.trod_struct Tryd.underlying23 hf
  have c1 : Tryd.prog.cellsOf 3 = 1 := by kernel_rfl
  have c3 : Tryd.prog.cellsOf 23 = 4 := by kernel_rfl
  rw [c3] at hc
  match xs, hlen with
  | [y0, y1, y2, y3], _ =>
    obtain ⟨k0, e0, f0, w0⟩ := DataW.trod_int Tryd.underlying3 (show DataW.trod enc Tryd.prog W 0 sp true n 3 _ = some y0 by simpa using hg 0 _ rfl)
    obtain ⟨k1, e1, f1, w1⟩ := DataW.trod_int Tryd.underlying3 (show DataW.trod enc Tryd.prog W 0 sp true n 3 _ = some y1 by simpa using hg 1 _ rfl)
    obtain ⟨k2, e2, f2, w2⟩ := DataW.trod_int Tryd.underlying3 (show DataW.trod enc Tryd.prog W 0 sp true n 3 _ = some y2 by simpa using hg 2 _ rfl)
    obtain ⟨k3, e3, f3, w3⟩ := DataW.trod_int Tryd.underlying3 (show DataW.trod enc Tryd.prog W 0 sp true n 3 _ = some y3 by simpa using hg 3 _ rfl)
    simp only [Value.cells, c1] at e0 e1 e2 e3
    have hcs : cs = #[.int .i64 k0, .int .i64 k1, .int .i64 k2, .int .i64 k3] := by
      match cs, hc with
      | ⟨[a, b, c, d]⟩, _ => simp at e0 e1 e2 e3; simp [e0, e1, e2, e3]
    subst hcs f0 f1 f2 f3
    simp only [List.map_cons, List.map_nil, Prod.mk.injEq] at hx
    obtain ⟨rfl, rfl⟩ := hx
    exact ⟨k0, k1, k2, k3, rfl, rfl, rfl, w0, w1, w2, w3⟩
end
end Go.Proofs.YthcpjpebahiikaaDoor
