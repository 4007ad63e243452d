/-
  How a list of items reads where it came in.
-/
import Derived.Test.YtpfifmjcmpankaaGreatMg48
import Derived.Test.YtpfifmjcmpankaaGreatMg4
import Derived.Deep.Slices
import Derived.Deep.Strs
import Derived.SizedLaws
namespace Go.Proofs.YtpfifmjcmpankaaGreat
open Go.ChangeShapes Go.WideShapes Go.ChangeAt Go.RowKit

section
variable {H : Type} {enc : TypeId × Value → H} {W : World} {r : Reach} {b0 : Nat} {sp : Nat → Bool} {v : Value} {d : DataW H} {ps : List MemPlace}

set_option maxRecDepth 100000 in
theorem reads_items (hv : Value.okWide Tryz.prog W r b0 22 v) (hd : DataW.Trod enc Tryz.prog W 0 sp true 22 v d ps) :
    ∃ os : List Itm, ReadsIt W W.heap.size v os ∧ (∀ o ∈ os, o.ok) ∧ (os.length = 0 ∨ ∃ E S, d = .slice E S ∧ E.length = os.length) := by
  obtain ⟨a0, len, cap, rfl⟩ := okWide_slice Tryz.underlying22 hv
  obtain ⟨fuel, hf⟩ := hd
  have c1 : Tryz.prog.cellsOf 3 = 1 := by kernel_rfl
  have c2 : Tryz.prog.cellsOf 9 = 1 := by kernel_rfl
  have c4 : Tryz.prog.cellsOf 24 = 4 := by kernel_rfl
  rcases Go.Deep.open_slice Tryz.underlying22 hf with ⟨hcs, _⟩ | ⟨a, len', cap', m, n, D, Pl, hcs, _, hl, hm, hmm, hdd, hx⟩
  · simp [Value.cells] at hcs
    obtain ⟨rfl, rfl, rfl⟩ := hcs
    exact ⟨[], ReadsIt.nil_ _ _, by simp, .inl rfl⟩
  · simp [Value.cells] at hcs
    obtain ⟨rfl, rfl, rfl⟩ := hcs
    have hlm : len ≤ m := by rw [hmm]; split <;> omega
    have each : ∀ i, i < m → ∃ o : Itm, o.ok ∧ W.cell? (a.add (i * 4)) = some (.string o.key) ∧ W.cell? (a.add (i * 4 + 1)) = some (.string o.val) ∧ W.cell? (a.add (i * 4 + 2)) = some (.int .i64 o.over) ∧ W.cell? (a.add (i * 4 + 3)) = some (.int .i64 o.size) := by
      intro i hi
      obtain ⟨cs', h1, h2⟩ := hx i hi
      rw [c4] at h1
      obtain ⟨_, hlen, hcell⟩ := World.cells?_some h1
      obtain ⟨xs, k, _, _, _, hxl, hg⟩ := DataW.trod_struct Tryz.underlying24 h2
      match xs, hxl, cs', hlen with
      | [y0, y1, y2, y3], _, [v0, v1, v2, v3], _ =>
        obtain ⟨s0, e0, _, w0⟩ := DataW.trod_string Tryz.underlying9 (show DataW.trod enc Tryz.prog W 0 sp true k 9 [v0] = some y0 by simpa [c2] using hg 0 _ rfl)
        obtain ⟨s1, e1, _, w1⟩ := DataW.trod_string Tryz.underlying9 (show DataW.trod enc Tryz.prog W 0 sp true k 9 [v1] = some y1 by simpa [c2] using hg 1 _ rfl)
        obtain ⟨k2, e2, _, w2⟩ := DataW.trod_int Tryz.underlying3 (show DataW.trod enc Tryz.prog W 0 sp true k 3 [v2] = some y2 by simpa [c1, c2] using hg 2 _ rfl)
        obtain ⟨k3, e3, _, w3⟩ := DataW.trod_int Tryz.underlying3 (show DataW.trod enc Tryz.prog W 0 sp true k 3 [v3] = some y3 by simpa [c1, c2] using hg 3 _ rfl)
        obtain rfl : v0 = .string s0 := by simpa using e0
        obtain rfl : v1 = .string s1 := by simpa using e1
        obtain rfl : v2 = .int .i64 k2 := by simpa using e2
        obtain rfl : v3 = .int .i64 k3 := by simpa using e3
        have f0 := hcell 0 (by omega)
        have f1 := hcell 1 (by omega)
        have f2 := hcell 2 (by omega)
        have f3 := hcell 3 (by omega)
        rw [Go.Deep.add_add] at f0 f1 f2 f3
        exact ⟨⟨s0, s1, k2, k3⟩, ⟨le_of_maxLen w0, le_of_maxLen w1, isInt_of_wf w2, isInt_of_wf w3⟩, by simpa using f0, by simpa using f1, by simpa using f2, by simpa using f3⟩
    let f : Nat → Itm := fun i => if h : i < m then Classical.choose (each i h) else ⟨⟨#[]⟩, ⟨#[]⟩, 0, 0⟩
    have hfs : ∀ i, i < m → (f i).ok ∧ W.cell? (a.add (i * 4)) = some (.string (f i).key) ∧ W.cell? (a.add (i * 4 + 1)) = some (.string (f i).val) ∧ W.cell? (a.add (i * 4 + 2)) = some (.int .i64 (f i).over) ∧ W.cell? (a.add (i * 4 + 3)) = some (.int .i64 (f i).size) := by
      intro i hi
      have : f i = Classical.choose (each i hi) := by simp [f, hi]
      rw [this]
      exact Classical.choose_spec (each i hi)
    refine ⟨(List.range len).map f, ⟨some a, cap, by simp, by simp; omega, by unfold maxLen; unfold maxLen at hm; omega, fun e => (by cases e), fun hp => ?_⟩, fun o ho => ?_, .inr ⟨_, _, congrArg Prod.fst hdd, by simp⟩⟩
    · have hp' : 0 < m := by simp at hp; omega
      obtain ⟨b, off, spot⟩ := a
      have h0 := (hfs 0 hp').2.1
      have hspot : spot = none := by simpa [Addr.add] using World.cell?_spot h0
      subst hspot
      simp only [Go.WideShapes.add_plain] at hfs h0
      refine ⟨b, off, rfl, World.block_lt_of_cell? W _ h0, fun i hi => ?_⟩
      have hi' : i < m := by simp at hi; omega
      have := hfs i hi'
      simp only [List.getElem_map, List.getElem_range]
      exact ⟨this.2.1, by rw [Nat.add_assoc]; exact this.2.2.1, by rw [Nat.add_assoc]; exact this.2.2.2.1, by rw [Nat.add_assoc]; exact this.2.2.2.2⟩
    · obtain ⟨i, hi, rfl⟩ := List.mem_map.1 ho
      exact (hfs i (by have := List.mem_range.1 hi; omega)).1

set_option maxRecDepth 100000 in
/-- An item that came in. -/
theorem open_item (hv : Value.okWide Tryz.prog W r b0 24 v) (hd : DataW.Trod enc Tryz.prog W 0 sp true 24 v d ps) : ∃ x : Itm, v = iagg x ∧ x.ok := by
  obtain ⟨cs, rfl, hc⟩ := okWide_struct Tryz.underlying24 hv
  obtain ⟨fuel, hf⟩ := hd
  obtain ⟨xs, n, _, hx, hl, hlen, hg⟩ := DataW.trod_struct Tryz.underlying24 hf
  have c1 : Tryz.prog.cellsOf 3 = 1 := by kernel_rfl
  have c2 : Tryz.prog.cellsOf 9 = 1 := by kernel_rfl
  have c4 : Tryz.prog.cellsOf 24 = 4 := by kernel_rfl
  rw [c4] at hc
  match xs, hlen with
  | [y0, y1, y2, y3], _ =>
    obtain ⟨s0, e0, _, w0⟩ := DataW.trod_string Tryz.underlying9 (show DataW.trod enc Tryz.prog W 0 sp true n 9 _ = some y0 by simpa using hg 0 _ rfl)
    obtain ⟨s1, e1, _, w1⟩ := DataW.trod_string Tryz.underlying9 (show DataW.trod enc Tryz.prog W 0 sp true n 9 _ = some y1 by simpa using hg 1 _ rfl)
    obtain ⟨k2, e2, _, w2⟩ := DataW.trod_int Tryz.underlying3 (show DataW.trod enc Tryz.prog W 0 sp true n 3 _ = some y2 by simpa using hg 2 _ rfl)
    obtain ⟨k3, e3, _, w3⟩ := DataW.trod_int Tryz.underlying3 (show DataW.trod enc Tryz.prog W 0 sp true n 3 _ = some y3 by simpa using hg 3 _ rfl)
    simp only [Value.cells, c1, c2] at e0 e1 e2 e3
    have hcs : cs = #[.string s0, .string s1, .int .i64 k2, .int .i64 k3] := by
      match cs, hc with
      | ⟨[a, b, c, d]⟩, _ => simp at e0 e1 e2 e3; simp [e0, e1, e2, e3]
    subst hcs
    exact ⟨⟨s0, s1, k2, k3⟩, rfl, le_of_maxLen w0, le_of_maxLen w1, isInt_of_wf w2, isInt_of_wf w3⟩

theorem bytesItem : Tryz.prog.bytesOf 24 = 48 := by kernel_rfl
/-- The form's own reach bounds a list of items that came in. -/
theorem items_sized {ts : List TypeId} {ds : List (DataW H)} (h : (DataW.weightsEach Tryz.prog ts ds).all (· ≤ reachBytes) = true) {j : Nat} {os : List Itm} (ht : ts[j]? = some 22) (hd : ds[j]? = some d) (hx : os.length = 0 ∨ ∃ E S, d = .slice E S ∧ E.length = os.length) : os.length ≤ 35184372088832 := by
  rcases hx with h0 | ⟨E, S, rfl, hl⟩
  · omega
  · have h1 := sized_slice h ht hd Tryz.underlying22
    rw [bytesItem] at h1
    unfold reachBytes at h1
    omega
end
end Go.Proofs.YtpfifmjcmpankaaGreat
