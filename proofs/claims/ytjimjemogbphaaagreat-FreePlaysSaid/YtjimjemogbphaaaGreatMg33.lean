/-
  How a list of things that are done (two numbers and a list of numbers each) reads where it came in.
-/
import Derived.Test.YtjimjemogbphaaaGreatMg32
import Derived.Deep.Slices
namespace Go.Proofs.YtjimjemogbphaaaGreat
open Go.ChangeShapes Go.WideShapes Go.ChangeAt Go.RowKit

section
variable {H : Type} {enc : TypeId × Value → H} {W : World} {r : Reach} {b0 : Nat} {sp : Nat → Bool} {v : Value} {d : DataW H} {ps : List MemPlace}

set_option maxRecDepth 100000 in
theorem ints_of_cells {fuel : Nat} {x : DataW H × List MemPlace} (hf : DataW.trod enc Tryz.prog W 0 sp true fuel 22 [v] = some x) :
    ∃ l : List Int, Reads1 W W.heap.size v (l.map (Value.int .i64)) ∧ (∀ x ∈ l, IsInt x) ∧ l.length ≤ 9223372036854775807 ∧ ∀ n c, v = .slice none n c → n = 0 ∧ c = 0 := by
  rcases open_ints Tryz.underlying22 Tryz.underlying3 (by kernel_rfl) hf with ⟨hcs, _⟩ | ⟨a, len, cap, zs, hcs, _, hl, hm, hz, _, hcell, hwz⟩
  · obtain rfl : v = .slice none 0 0 := by simpa using hcs
    exact ⟨[], Reads1.empty _ _ _ _, by simp, by simp, fun n c h => by cases h; exact ⟨rfl, rfl⟩⟩
  · obtain rfl : v = .slice (some a) len cap := by simpa using hcs
    have hlz : len ≤ zs.length := by rw [hz]; split <;> omega
    refine ⟨zs.take len, ⟨some a, cap, ?_, fun hp => ?_⟩, fun x hx => isInt_of_wf (hwz x (List.mem_of_mem_take hx)), ?_, fun n c h => by cases h⟩
    · congr 1
      simp
      omega
    · have h0 : 0 < zs.length := by simp at hp; omega
      obtain ⟨b, off, rfl, hc⟩ := ints_at hcell h0
      refine ⟨b, off, rfl, World.block_lt_of_cell? W _ (hc 0 h0), fun j u hu => ?_⟩
      rw [List.getElem?_map, List.getElem?_take] at hu
      split at hu
      · rename_i hj
        have hjz : j < zs.length := by omega
        rw [hc j hjz]
        rw [List.getElem?_eq_getElem hjz] at hu
        simp at hu
        rw [List.getD, List.getElem?_eq_getElem hjz, ← hu]
        rfl
      · simp at hu
    · simp only [List.length_take]
      unfold maxLen at hm
      omega

/-- One thing that is done, as it lies in memory: its kind, its number, the slice of its list, the list. -/
structure OpL where
  k : Int
  n : Int
  v : Value
  l : List Int

def OpL.ok (W : World) (o : OpL) : Prop :=
  IsInt o.k ∧ IsInt o.n ∧ Reads1 W W.heap.size o.v (o.l.map (Value.int .i64)) ∧ (∀ x ∈ o.l, IsInt x) ∧ o.l.length ≤ 9223372036854775807 ∧ ∀ n c, o.v = .slice none n c → n = 0 ∧ c = 0

/-- v is a slice of the things os, three cells each. -/
def ReadsOps (W : World) (v : Value) (os : List OpL) : Prop :=
  ∃ (A : Option Addr) (c : Nat), v = .slice A os.length c ∧ (0 < os.length → ∃ b off, A = some ⟨b, off, none⟩ ∧ b < W.heap.size ∧
    ∀ i (h : i < os.length), W.cell? ⟨b, off + i * 3, none⟩ = some (.int .i64 os[i].k) ∧ W.cell? ⟨b, off + i * 3 + 1, none⟩ = some (.int .i64 os[i].n) ∧ W.cell? ⟨b, off + i * 3 + 2, none⟩ = some os[i].v)

set_option maxRecDepth 100000 in
theorem reads_fops (hv : Value.okWide Tryz.prog W r b0 23 v) (hd : DataW.Trod enc Tryz.prog W 0 sp true 23 v d ps) :
    ∃ os : List OpL, ReadsOps W v os ∧ (∀ o ∈ os, o.ok W) ∧ os.length ≤ 9223372036854775807 := by
  obtain ⟨a0, len, cap, rfl⟩ := okWide_slice Tryz.underlying23 hv
  obtain ⟨fuel, hf⟩ := hd
  have c1 : Tryz.prog.cellsOf 3 = 1 := by kernel_rfl
  have c2 : Tryz.prog.cellsOf 22 = 1 := by kernel_rfl
  have c3 : Tryz.prog.cellsOf 63 = 3 := by kernel_rfl
  rcases Go.Deep.open_slice Tryz.underlying23 hf with ⟨hcs, _⟩ | ⟨a, len', cap', m, n, D, Pl, hcs, _, hl, hm, hmm, _, hx⟩
  · simp [Value.cells] at hcs
    obtain ⟨rfl, rfl, rfl⟩ := hcs
    exact ⟨[], ⟨none, 0, rfl, fun h => by simp at h⟩, by simp, by simp⟩
  · simp [Value.cells] at hcs
    obtain ⟨rfl, rfl, rfl⟩ := hcs
    have hlm : len ≤ m := by rw [hmm]; split <;> omega
    have each : ∀ i, i < m → ∃ o : OpL, o.ok W ∧ W.cell? (a.add (i * 3)) = some (.int .i64 o.k) ∧ W.cell? (a.add (i * 3 + 1)) = some (.int .i64 o.n) ∧ W.cell? (a.add (i * 3 + 2)) = some o.v := by
      intro i hi
      obtain ⟨cs', h1, h2⟩ := hx i hi
      rw [c3] at h1
      obtain ⟨_, hlen, hcell⟩ := World.cells?_some h1
      obtain ⟨xs, k, _, _, _, hxl, hg⟩ := DataW.trod_struct Tryz.underlying63 h2
      match xs, hxl, cs', hlen with
      | [y0, y1, y2], _, [v0, v1, v2], _ =>
        obtain ⟨k0, e0, _, w0⟩ := DataW.trod_int Tryz.underlying3 (show DataW.trod enc Tryz.prog W 0 sp true k 3 [v0] = some y0 by simpa [c1] using hg 0 _ rfl)
        obtain ⟨k1, e1, _, w1⟩ := DataW.trod_int Tryz.underlying3 (show DataW.trod enc Tryz.prog W 0 sp true k 3 [v1] = some y1 by simpa [c1] using hg 1 _ rfl)
        obtain ⟨l, r1, r2, r3, r4⟩ := ints_of_cells (show DataW.trod enc Tryz.prog W 0 sp true k 22 [v2] = some y2 by simpa [c2] using hg 2 _ rfl)
        obtain rfl : v0 = .int .i64 k0 := by simpa using e0
        obtain rfl : v1 = .int .i64 k1 := by simpa using e1
        have f0 := hcell 0 (by omega)
        have f1 := hcell 1 (by omega)
        have f2 := hcell 2 (by omega)
        rw [Go.Deep.add_add] at f0 f1 f2
        exact ⟨⟨k0, k1, v2, l⟩, ⟨isInt_of_wf w0, isInt_of_wf w1, r1, r2, r3, r4⟩, by simpa using f0, by simpa using f1, by simpa using f2⟩
    let f : Nat → OpL := fun i => if h : i < m then Classical.choose (each i h) else ⟨0, 0, .slice none 0 0, []⟩
    have hfs : ∀ i, i < m → (f i).ok W ∧ W.cell? (a.add (i * 3)) = some (.int .i64 (f i).k) ∧ W.cell? (a.add (i * 3 + 1)) = some (.int .i64 (f i).n) ∧ W.cell? (a.add (i * 3 + 2)) = some (f i).v := by
      intro i hi
      have : f i = Classical.choose (each i hi) := by simp [f, hi]
      rw [this]
      exact Classical.choose_spec (each i hi)
    refine ⟨(List.range len).map f, ⟨some a, cap, by simp, fun hp => ?_⟩, fun o ho => ?_, ?_⟩
    · have hp' : 0 < m := by simp at hp; omega
      obtain ⟨b, off, spot⟩ := a
      have h0 := (hfs 0 hp').2.1
      have hspot : spot = none := by simpa [Addr.add] using World.cell?_spot h0
      subst hspot
      simp only [Go.WideShapes.add_plain] at hfs h0
      refine ⟨b, off, rfl, World.block_lt_of_cell? W _ h0, fun i hi => ?_⟩
      have hi' : i < m := by simp at hi; omega
      have := hfs i hi'
      simp only [List.getElem_map, List.getElem_range]
      exact ⟨this.2.1, by rw [Nat.add_assoc]; exact this.2.2.1, by rw [Nat.add_assoc]; exact this.2.2.2⟩
    · obtain ⟨i, hi, rfl⟩ := List.mem_map.1 ho
      exact (hfs i (by have := List.mem_range.1 hi; omega)).1
    · simp
      unfold maxLen at hm
      omega
end
end Go.Proofs.YtjimjemogbphaaaGreat
