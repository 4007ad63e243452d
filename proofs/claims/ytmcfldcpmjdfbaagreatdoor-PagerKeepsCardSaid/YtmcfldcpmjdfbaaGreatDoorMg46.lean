/-
  How a list of things that are done (two numbers and a page each) reads where it came in.
-/
import Derived.Test.YtmcfldcpmjdfbaaGreatDoorMg45
import Derived.Deep.Slices
import Derived.Deep.Strs
namespace Go.Proofs.YtmcfldcpmjdfbaaGreatDoor
open Go.ChangeShapes Go.WideShapes Go.ChangeAt Go.RowKit

/-- One thing that is done: its kind, its number, its page. -/
structure POp where
  k : Int
  n : Int
  pk : Int
  pn : Int
  t : ByteArray

def POp.ok (o : POp) : Prop := IsInt o.k ∧ IsInt o.n ∧ IsInt o.pk ∧ IsInt o.pn ∧ o.t.size ≤ 9223372036854775807

/-- v is a slice of the things os, five cells each. -/
def ReadsPOps (W : World) (B : Nat) (v : Value) (os : List POp) : Prop :=
  ∃ (A : Option Addr) (c : Nat), v = .slice A os.length c ∧ (0 < os.length → ∃ b off, A = some ⟨b, off, none⟩ ∧ b < B ∧
    ∀ i (h : i < os.length), W.cell? ⟨b, off + i * 5, none⟩ = some (.int .i64 os[i].k) ∧ W.cell? ⟨b, off + i * 5 + 1, none⟩ = some (.int .i64 os[i].n) ∧ W.cell? ⟨b, off + i * 5 + 2, none⟩ = some (.int .i64 os[i].pk) ∧
      W.cell? ⟨b, off + i * 5 + 3, none⟩ = some (.int .i64 os[i].pn) ∧ W.cell? ⟨b, off + i * 5 + 4, none⟩ = some (.string os[i].t))
theorem ReadsPOps.below {W W' : World} {B : Nat} {v : Value} {os : List POp} (h : ReadsPOps W B v os) (hb : Below B W W') : ReadsPOps W' B v os := by
  obtain ⟨A, c, rfl, h⟩ := h
  refine ⟨A, c, rfl, fun h0 => ?_⟩
  obtain ⟨b, off, rfl, hlt, hc⟩ := h h0
  exact ⟨b, off, rfl, hlt, fun i hi => ⟨(hb.cell hlt).trans (hc i hi).1, (hb.cell hlt).trans (hc i hi).2.1, (hb.cell hlt).trans (hc i hi).2.2.1, (hb.cell hlt).trans (hc i hi).2.2.2.1, (hb.cell hlt).trans (hc i hi).2.2.2.2⟩⟩
theorem ReadsPOps.at {W : World} {B : Nat} {v : Value} {os : List POp} (h : ReadsPOps W B v os) (i : Nat) (hi : i < os.length) : ∃ b off c, v = .slice (some ⟨b, off, none⟩) os.length c ∧ b < B ∧
    W.cell? ⟨b, off + i * 5, none⟩ = some (.int .i64 os[i].k) ∧ W.cell? ⟨b, off + i * 5 + 1, none⟩ = some (.int .i64 os[i].n) ∧ W.cell? ⟨b, off + i * 5 + 2, none⟩ = some (.int .i64 os[i].pk) ∧
      W.cell? ⟨b, off + i * 5 + 3, none⟩ = some (.int .i64 os[i].pn) ∧ W.cell? ⟨b, off + i * 5 + 4, none⟩ = some (.string os[i].t) := by
  obtain ⟨A, c, rfl, h⟩ := h
  obtain ⟨b, off, rfl, hlt, hc⟩ := h (by omega)
  exact ⟨b, off, c, rfl, hlt, hc i hi⟩
theorem ReadsPOps.form {W : World} {B : Nat} {v : Value} {os : List POp} (h : ReadsPOps W B v os) : ∃ A c, v = .slice A os.length c := by
  obtain ⟨A, c, rfl, _⟩ := h
  exact ⟨A, c, rfl⟩

section
variable {H : Type} {enc : TypeId × Value → H} {W : World} {r : Reach} {b0 : Nat} {sp : Nat → Bool} {v : Value} {d : DataW H} {ps : List MemPlace}

set_option maxRecDepth 100000 in
theorem reads_pops (hv : Value.okWide Tryz.prog W r b0 61 v) (hd : DataW.Trod enc Tryz.prog W 0 sp true 61 v d ps) :
    ∃ os : List POp, ReadsPOps W W.heap.size v os ∧ (∀ o ∈ os, o.ok) ∧ os.length ≤ 9223372036854775807 := by
  obtain ⟨a0, len, cap, rfl⟩ := okWide_slice Tryz.underlying61 hv
  obtain ⟨fuel, hf⟩ := hd
  have c1 : Tryz.prog.cellsOf 3 = 1 := by kernel_rfl
  have c2 : Tryz.prog.cellsOf 9 = 1 := by kernel_rfl
  have c3 : Tryz.prog.cellsOf 23 = 3 := by kernel_rfl
  have c5 : Tryz.prog.cellsOf 73 = 5 := by kernel_rfl
  rcases Go.Deep.open_slice Tryz.underlying61 hf with ⟨hcs, _⟩ | ⟨a, len', cap', m, n, D, Pl, hcs, _, hl, hm, hmm, _, hx⟩
  · simp [Value.cells] at hcs
    obtain ⟨rfl, rfl, rfl⟩ := hcs
    exact ⟨[], ⟨none, 0, rfl, fun h => by simp at h⟩, by simp, by simp⟩
  · simp [Value.cells] at hcs
    obtain ⟨rfl, rfl, rfl⟩ := hcs
    have hlm : len ≤ m := by rw [hmm]; split <;> omega
    have each : ∀ i, i < m → ∃ o : POp, o.ok ∧ W.cell? (a.add (i * 5)) = some (.int .i64 o.k) ∧ W.cell? (a.add (i * 5 + 1)) = some (.int .i64 o.n) ∧ W.cell? (a.add (i * 5 + 2)) = some (.int .i64 o.pk) ∧
        W.cell? (a.add (i * 5 + 3)) = some (.int .i64 o.pn) ∧ W.cell? (a.add (i * 5 + 4)) = some (.string o.t) := by
      intro i hi
      obtain ⟨cs', h1, h2⟩ := hx i hi
      rw [c5] at h1
      obtain ⟨_, hlen, hcell⟩ := World.cells?_some h1
      obtain ⟨xs, k, _, _, _, hxl, hg⟩ := DataW.trod_struct Tryz.underlying73 h2
      match xs, hxl, cs', hlen with
      | [y0, y1, y2], _, [v0, v1, v2, v3, v4], _ =>
        obtain ⟨k0, e0, _, w0⟩ := DataW.trod_int Tryz.underlying3 (show DataW.trod enc Tryz.prog W 0 sp true k 3 [v0] = some y0 by simpa [c1] using hg 0 _ rfl)
        obtain ⟨k1, e1, _, w1⟩ := DataW.trod_int Tryz.underlying3 (show DataW.trod enc Tryz.prog W 0 sp true k 3 [v1] = some y1 by simpa [c1] using hg 1 _ rfl)
        obtain ⟨xs2, k2, _, _, _, hxl2, hg2⟩ := DataW.trod_struct Tryz.underlying23 (show DataW.trod enc Tryz.prog W 0 sp true k 23 [v2, v3, v4] = some y2 by simpa [c3] using hg 2 _ rfl)
        match xs2, hxl2 with
        | [z0, z1, z2], _ =>
          obtain ⟨k3, e3, _, w3⟩ := DataW.trod_int Tryz.underlying3 (show DataW.trod enc Tryz.prog W 0 sp true k2 3 [v2] = some z0 by simpa [c1] using hg2 0 _ rfl)
          obtain ⟨k4, e4, _, w4⟩ := DataW.trod_int Tryz.underlying3 (show DataW.trod enc Tryz.prog W 0 sp true k2 3 [v3] = some z1 by simpa [c1] using hg2 1 _ rfl)
          obtain ⟨s5, e5, _, w5⟩ := DataW.trod_string Tryz.underlying9 (show DataW.trod enc Tryz.prog W 0 sp true k2 9 [v4] = some z2 by simpa [c2] using hg2 2 _ rfl)
          obtain rfl : v0 = .int .i64 k0 := by simpa using e0
          obtain rfl : v1 = .int .i64 k1 := by simpa using e1
          obtain rfl : v2 = .int .i64 k3 := by simpa using e3
          obtain rfl : v3 = .int .i64 k4 := by simpa using e4
          obtain rfl : v4 = .string s5 := by simpa using e5
          have f0 := hcell 0 (by omega)
          have f1 := hcell 1 (by omega)
          have f2 := hcell 2 (by omega)
          have f3 := hcell 3 (by omega)
          have f4 := hcell 4 (by omega)
          rw [Go.Deep.add_add] at f0 f1 f2 f3 f4
          exact ⟨⟨k0, k1, k3, k4, s5⟩, ⟨isInt_of_wf w0, isInt_of_wf w1, isInt_of_wf w3, isInt_of_wf w4, le_of_maxLen w5⟩, by simpa using f0, by simpa using f1, by simpa using f2, by simpa using f3, by simpa using f4⟩
    let f : Nat → POp := fun i => if h : i < m then Classical.choose (each i h) else ⟨0, 0, 0, 0, ⟨#[]⟩⟩
    have hfs : ∀ i, i < m → (f i).ok ∧ W.cell? (a.add (i * 5)) = some (.int .i64 (f i).k) ∧ W.cell? (a.add (i * 5 + 1)) = some (.int .i64 (f i).n) ∧ W.cell? (a.add (i * 5 + 2)) = some (.int .i64 (f i).pk) ∧
        W.cell? (a.add (i * 5 + 3)) = some (.int .i64 (f i).pn) ∧ W.cell? (a.add (i * 5 + 4)) = some (.string (f i).t) := by
      intro i hi
      have : f i = Classical.choose (each i hi) := by simp [f, hi]
      rw [this]
      exact Classical.choose_spec (each i hi)
    refine ⟨(List.range len).map f, ⟨some a, cap, by simp, fun hp => ?_⟩, fun o ho => ?_, ?_⟩
    · have hp' : 0 < m := by simp at hp; omega
      obtain ⟨b, off, spot⟩ := a
      have h0 := (hfs 0 hp').2.1
      have hspot : spot = none := by simpa [Addr.add] using World.cell?_spot h0
      subst hspot
      simp only [Go.WideShapes.add_plain] at hfs h0
      refine ⟨b, off, rfl, World.block_lt_of_cell? W _ h0, fun i hi => ?_⟩
      have hi' : i < m := by simp at hi; omega
      have := hfs i hi'
      simp only [List.getElem_map, List.getElem_range]
      exact ⟨this.2.1, by rw [Nat.add_assoc]; exact this.2.2.1, by rw [Nat.add_assoc]; exact this.2.2.2.1, by rw [Nat.add_assoc]; exact this.2.2.2.2.1, by rw [Nat.add_assoc]; exact this.2.2.2.2.2⟩
    · obtain ⟨i, hi, rfl⟩ := List.mem_map.1 ho
      exact (hfs i (by have := List.mem_range.1 hi; omega)).1
    · simp
      unfold maxLen at hm
      omega
end
end Go.Proofs.YtmcfldcpmjdfbaaGreatDoor
