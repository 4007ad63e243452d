/-
  What every law's proof opens with: how arguments read, and what a law's row asks behind the call.
-/
import Derived.Test.YthcpjpebahiikaaDoorMg1
import Derived.Test.YthcpjpebahiikaaDoorRows
import Derived.ProofKit
import Derived.OpenShut
import Derived.Deep.DeepHandedRow
namespace Go.Proofs.YthcpjpebahiikaaDoor
open Go.ChangeShapes Go.WideShapes Go.ChangeAt Go.RowKit

theorem own : ownKnob Tryd.prog.godebug = none := by kernel_rfl

theorem laidOut : laidOutB Tryd.prog = true := by kernel_rfl

section
variable {H : Type} {enc : TypeId × Value → H}

/-- Arguments read behind the call as they read before it, if nothing has turned that was there. -/
theorem trodAll_below {P : Program} (hl : laidOutB P = true) {W W' : World} (hb : Below W.heap.size W W') (ts : List TypeId) : ∀ {vs : List Value} {ds : List (DataW H)} {p : List MemPlace},
    (ts.all fun t => P.readableRec t && decide (t < P.types.size)) = true → DataW.TrodAll enc P W 0 (fun _ => true) true ts vs ds p → (∀ x ∈ p, x.block < W.heap.size) →
    DataW.TrodAll enc P W' 0 (fun b => decide (b < W.heap.size)) true ts vs ds p := by
  induction ts with
  | nil =>
    intro vs ds p _ h _
    obtain ⟨rfl, rfl, rfl⟩ := trodAll_nil h
    exact trodAll_mk0
  | cons t r ih =>
    intro vs ds p hr h hp
    obtain ⟨v, vs1, d, ds1, a, b, rfl, rfl, rfl, h1, h2⟩ := trodAll_cons h
    rw [List.all_cons, Bool.and_eq_true] at hr
    obtain ⟨hr1, hr2⟩ := hr
    rw [Bool.and_eq_true] at hr1
    exact trodAll_cons_mk (Below.trod hl hr1.1 (of_decide_eq_true hr1.2) h1 hb (fun x hx => hp x (List.mem_append_left _ hx))) (ih hr2 h2 (fun x hx => hp x (List.mem_append_right _ hx)))

/-- What a law's row asks behind the call: it answers true, and nothing that was there has turned. -/
theorem law_post {f : Func} {s : ChangeSpec} {W W' : World} {args : Array Value} {ds gs : List (DataW H)} {before : List MemPlace}
    (hW : DataW.Whole enc Tryd.prog f.params.toList s.vars false W args.toList ds gs before) (hv : s.vars = []) (hs : s.fn H (ds ++ gs) = { results := [.lit (.bool true)], args := ds })
    (hr : f.resultTypes = #[4]) (hp : (f.params.toList.all fun t => Tryd.prog.readableRec t && decide (t < Tryd.prog.types.size)) = true) (hb : Below W.heap.size W W') :
    s.post enc Tryd.prog f false true false false W args (.bool true) W' := by
  have hW' := hW
  obtain ⟨p, q, hA, hV, rfl, _, _⟩ := hW
  rw [hv] at hV
  obtain ⟨rfl, rfl⟩ := trodVars_none hV
  refine ⟨ds, [], p ++ [], [], p, [], hW', ?_, ?_, ?_, hb.frame _, fun h => by cases h⟩
  · rw [hs, hr]
    exact trodAll_cons_mk (shut_bool Tryd.underlying4 true) trodAll_mk0
  · rw [hs]
    exact trodAll_below laidOut hb _ hp hA (fun x hx => hW'.lt x (by simp [hx]))
  · rw [hs, hv]
    rfl
end

theorem le_of_maxLen {n : Nat} (h : n ≤ maxLen) : n ≤ 9223372036854775807 := by unfold maxLen at h; omega
theorem isInt_of_wf {n : Int} (h : (Lit.int .i64 n).wf = true) : IsInt n := by
  have h1 : IntKind.i64.min = -9223372036854775808 := by decide +kernel
  have h2 : IntKind.i64.max = 9223372036854775807 := by decide +kernel
  simp only [Lit.wf, Bool.and_eq_true, decide_eq_true_eq, h1, h2] at h
  exact h

theorem u8_of_wf {n : Int} (h : (Lit.int .u8 n).wf = true) : 0 ≤ n ∧ n ≤ 255 := by
  have h1 : IntKind.u8.min = 0 := by decide +kernel
  have h2 : IntKind.u8.max = 255 := by decide +kernel
  simp only [Lit.wf, Bool.and_eq_true, decide_eq_true_eq, h1, h2] at h
  exact h

section
variable {H : Type} {enc : TypeId × Value → H} {W : World} {r : Reach} {b0 : Nat} {sp : Nat → Bool} {v : Value} {d : DataW H} {ps : List MemPlace}

-- A []int that came in reads as a list of ints.
set_option maxRecDepth 100000 in
theorem reads_ints (hv : Value.okWide Tryd.prog W r b0 51 v) (hd : DataW.Trod enc Tryd.prog W 0 sp true 51 v d ps) :
    ∃ l : List Int, Reads1 W W.heap.size v (l.map (Value.int .i64)) ∧ (∀ x ∈ l, IsInt x) ∧ l.length ≤ 9223372036854775807 := by
  obtain ⟨a0, len, cap, rfl⟩ := okWide_slice Tryd.underlying51 hv
  obtain ⟨fuel, hf⟩ := hd
  rcases open_ints Tryd.underlying51 Tryd.underlying3 (by kernel_rfl) hf with ⟨hcs, _⟩ | ⟨a, len', cap', zs, hcs, _, hl, hm, hz, _, hcell, hwz⟩
  · simp [Value.cells] at hcs
    obtain ⟨rfl, rfl, rfl⟩ := hcs
    exact ⟨[], Reads1.empty _ _ _ _, by simp, by simp⟩
  · simp [Value.cells] at hcs
    obtain ⟨rfl, rfl, rfl⟩ := hcs
    have hlz : len ≤ zs.length := by rw [hz]; split <;> omega
    refine ⟨zs.take len, ⟨some a, cap, ?_, fun hp => ?_⟩, fun x hx => isInt_of_wf (hwz x (List.mem_of_mem_take hx)), ?_⟩
    · congr 1
      simp
      omega
    · have h0 : 0 < zs.length := by simp at hp; omega
      obtain ⟨b, off, rfl, hc⟩ := ints_at hcell h0
      refine ⟨b, off, rfl, World.block_lt_of_cell? W _ (hc 0 h0), fun j u hu => ?_⟩
      rw [List.getElem?_map, List.getElem?_take] at hu
      split at hu
      · rename_i hj
        have hjz : j < zs.length := by omega
        rw [hc j hjz]
        rw [List.getElem?_eq_getElem hjz] at hu
        simp at hu
        rw [List.getD, List.getElem?_eq_getElem hjz, ← hu]
        rfl
      · simp at hu
    · simp only [List.length_take]
      unfold maxLen at hm
      omega
set_option maxRecDepth 100000 in
theorem form_intsF (hd : DataW.Trod enc Tryd.prog W 0 sp true 51 v d ps) : ∀ n c, v = .slice none n c → n = 0 ∧ c = 0 := by
  rintro n c rfl
  obtain ⟨fuel, hf⟩ := hd
  rcases open_ints Tryd.underlying51 Tryd.underlying3 (by kernel_rfl) hf with ⟨hcs, _⟩ | ⟨a, len', cap', zs, hcs, _⟩
  · simp [Value.cells] at hcs
    exact hcs
  · simp [Value.cells] at hcs
set_option maxRecDepth 100000 in
theorem reads_intsF (hv : Value.okWide Tryd.prog W r b0 51 v) (hd : DataW.Trod enc Tryd.prog W 0 sp true 51 v d ps) :
    ∃ l : List Int, Reads1 W W.heap.size v (l.map (Value.int .i64)) ∧ (∀ x ∈ l, IsInt x) ∧ (l.length ≤ 9223372036854775807 ∧ ∀ n c, v = .slice none n c → n = 0 ∧ c = 0) := by
  obtain ⟨l, h1, h2, h3⟩ := reads_ints hv hd
  exact ⟨l, h1, h2, h3, form_intsF hd⟩


-- A []string that came in reads as a list of texts.
set_option maxRecDepth 100000 in
theorem reads_texts (hv : Value.okWide Tryd.prog W r b0 57 v) (hd : DataW.Trod enc Tryd.prog W 0 sp true 57 v d ps) :
    ∃ l : List ByteArray, Reads1 W W.heap.size v (l.map Value.string) ∧ (∀ s ∈ l, s.size ≤ 9223372036854775807) ∧ l.length ≤ 9223372036854775807 := by
  obtain ⟨a0, len, cap, rfl⟩ := okWide_slice Tryd.underlying57 hv
  obtain ⟨fuel, hf⟩ := hd
  rcases open_strings Tryd.underlying57 Tryd.underlying9 (by kernel_rfl) hf with ⟨hcs, _⟩ | ⟨a, len', cap', zs, hcs, _, hl, hm, hz, _, hcell, hwz⟩
  · simp [Value.cells] at hcs
    obtain ⟨rfl, rfl, rfl⟩ := hcs
    exact ⟨[], Reads1.empty _ _ _ _, by simp, by simp⟩
  · simp [Value.cells] at hcs
    obtain ⟨rfl, rfl, rfl⟩ := hcs
    have hlz : len ≤ zs.length := by rw [hz]; split <;> omega
    refine ⟨zs.take len, ⟨some a, cap, ?_, fun hp => ?_⟩, fun x hx => by have := hwz x (List.mem_of_mem_take hx); unfold maxLen at this; omega, ?_⟩
    · congr 1
      simp
      omega
    · have h0 : 0 < zs.length := by simp at hp; omega
      obtain ⟨b, off, spot⟩ := a
      have hspot : spot = none := by simpa [Addr.add] using World.cell?_spot (hcell 0 h0)
      subst hspot
      have hc : ∀ j, j < zs.length → W.cell? ⟨b, off + j, none⟩ = some (.string (zs.getD j ByteArray.empty)) := fun j hj => by rw [← Go.WideShapes.add_plain]; exact hcell j hj
      refine ⟨b, off, rfl, World.block_lt_of_cell? W _ (hc 0 h0), fun j u hu => ?_⟩
      rw [List.getElem?_map, List.getElem?_take] at hu
      split at hu
      · rename_i hj
        have hjz : j < zs.length := by omega
        rw [hc j hjz]
        rw [List.getElem?_eq_getElem hjz] at hu
        simp at hu
        rw [List.getD, List.getElem?_eq_getElem hjz, ← hu]
        rfl
      · simp at hu
    · simp only [List.length_take]
      unfold maxLen at hm
      omega
set_option maxRecDepth 100000 in
theorem reads_textsF (hv : Value.okWide Tryd.prog W r b0 57 v) (hd : DataW.Trod enc Tryd.prog W 0 sp true 57 v d ps) :
    ∃ l : List ByteArray, Reads1 W W.heap.size v (l.map Value.string) ∧ (∀ s ∈ l, s.size ≤ 9223372036854775807) ∧ (l.length ≤ 9223372036854775807 ∧ ∀ n c, v = .slice none n c → n = 0 ∧ c = 0) := by
  obtain ⟨l, h1, h2, h3⟩ := reads_texts hv hd
  refine ⟨l, h1, h2, h3, ?_⟩
  rintro n c rfl
  obtain ⟨fuel, hf⟩ := hd
  rcases open_strings Tryd.underlying57 Tryd.underlying9 (by kernel_rfl) hf with ⟨hcs, _⟩ | ⟨a, len', cap', zs, hcs, _⟩
  · simp [Value.cells] at hcs
    exact hcs
  · simp [Value.cells] at hcs
end

section
variable {H : Type} {enc : TypeId × Value → H} {W : World} {r : Reach} {b0 : Nat} {sp : Nat → Bool} {v : Value} {d : DataW H} {ps : List MemPlace}

-- A []byte that came in reads as a list of numbers below 256.
set_option maxRecDepth 100000 in
theorem reads_bytes (hv : Value.okWide Tryd.prog W r b0 29 v) (hd : DataW.Trod enc Tryd.prog W 0 sp true 29 v d ps) :
    ∃ l : List Nat, Reads1 W W.heap.size v (l.map fun b : Nat => Value.int .u8 (b : Int)) ∧ (∀ x ∈ l, x < 256) ∧ l.length ≤ 9223372036854775807 := by
  obtain ⟨a0, len, cap, rfl⟩ := okWide_slice Tryd.underlying29 hv
  obtain ⟨fuel, hf⟩ := hd
  rcases open_ints Tryd.underlying29 Tryd.underlying5 (by kernel_rfl) hf with ⟨hcs, _⟩ | ⟨a, len', cap', zs, hcs, _, hl, hm, hz, _, hcell, hwz⟩
  · simp [Value.cells] at hcs
    obtain ⟨rfl, rfl, rfl⟩ := hcs
    exact ⟨[], Reads1.empty _ _ _ _, by simp, by simp⟩
  · simp [Value.cells] at hcs
    obtain ⟨rfl, rfl, rfl⟩ := hcs
    have hlz : len ≤ zs.length := by rw [hz]; split <;> omega
    have hwf : ∀ x ∈ zs, 0 ≤ x ∧ x ≤ 255 := by
      intro x hx
      have h := hwz x hx
      have h1 : IntKind.u8.min = 0 := by decide +kernel
      have h2 : IntKind.u8.max = 255 := by decide +kernel
      simp only [Lit.wf, Bool.and_eq_true, decide_eq_true_eq, h1, h2] at h
      exact h
    refine ⟨(zs.take len).map Int.toNat, ⟨some a, cap, ?_, fun hp => ?_⟩, fun x hx => ?_, ?_⟩
    · congr 1
      simp
      omega
    · have h0 : 0 < zs.length := by simp at hp; omega
      obtain ⟨b, off, rfl, hc⟩ := ints_at hcell h0
      refine ⟨b, off, rfl, World.block_lt_of_cell? W _ (hc 0 h0), fun j u hu => ?_⟩
      rw [List.getElem?_map, List.getElem?_map, List.getElem?_take] at hu
      split at hu
      · rename_i hj
        have hjz : j < zs.length := by omega
        rw [hc j hjz]
        rw [List.getElem?_eq_getElem hjz] at hu
        simp at hu
        have h3 := hwf zs[j] (List.getElem_mem hjz)
        rw [List.getD, List.getElem?_eq_getElem hjz, ← hu]
        have h4 : max zs[j] 0 = zs[j] := by omega
        simp [h4]
      · simp at hu
    · obtain ⟨y, hy, rfl⟩ := List.mem_map.1 hx
      have := hwf y (List.mem_of_mem_take hy)
      omega
    · simp only [List.length_map, List.length_take]
      unfold maxLen at hm
      omega
end

end Go.Proofs.YthcpjpebahiikaaDoor
