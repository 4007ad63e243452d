/-
  A device in memory: its lists of pages turn. Walks: New, Grow.
-/
import Derived.Test.YtccajgdfjinjbaaDoorD1
import Derived.Test.YtccajgdfjinjbaaDoorA1
namespace Go.Proofs.YtccajgdfjinjbaaDoor
open Go.RowKit Go.Lib

/-- The memory of a device: its lists pv and sv, its line's channel ch. -/
structure DevMem (w : World) (p : Nat) (s : DevS) (pv sv : Value) (ch : Option Nat) : Prop where
  line : LineAt w p 66 (devCells s pv sv ch) 5 s.line s.cap ch
  rowp : w.ownsRow 0 9 1 pv s.pages.length (s.pages.map Value.string)
  rows : w.ownsRow 0 9 1 sv s.synced.length (s.synced.map Value.string)
  nodup : (devBlocks p pv sv ch).Nodup

theorem DevAt.mem_ {w : World} {p : Nat} {s : DevS} {F : List Nat} (h : DevAt w p s F) : ∃ pv sv ch, DevMem w p s pv sv ch ∧ F = devBlocks p pv sv ch := by
  obtain ⟨pv, sv, ch, hl, hp, hs, rfl, hn, _⟩ := h
  exact ⟨pv, sv, ch, ⟨hl, hp, hs, hn⟩, rfl⟩
theorem DevMem.at_ {w : World} {p : Nat} {s : DevS} {pv sv : Value} {ch : Option Nat} (h : DevMem w p s pv sv ch) (ho : DevOK s) : DevAt w p s (devBlocks p pv sv ch) :=
  ⟨pv, sv, ch, h.line, h.rowp, h.rows, rfl, h.nodup, ho⟩

theorem mem_devBlocks {p k : Nat} {pv sv : Value} {ch : Option Nat} : k ∈ devBlocks p pv sv ch ↔ k = p ∨ pv.ownBlock = some k ∨ sv.ownBlock = some k ∨ ch = some k := by
  simp [devBlocks]
theorem nodup_devBlocks {p : Nat} {pv sv : Value} {ch : Option Nat} : (devBlocks p pv sv ch).Nodup ↔ (∀ k, pv.ownBlock = some k → k ≠ p ∧ sv.ownBlock ≠ some k ∧ ch ≠ some k) ∧ (∀ k, sv.ownBlock = some k → k ≠ p ∧ ch ≠ some k) ∧ ch ≠ some p := by
  unfold devBlocks
  rcases pv.ownBlock with _ | a <;> rcases sv.ownBlock with _ | b <;> rcases ch with _ | c <;> simp <;> omega

theorem DevMem.lt {w : World} {p : Nat} {s : DevS} {pv sv : Value} {ch : Option Nat} (h : DevMem w p s pv sv ch) : ∀ k ∈ devBlocks p pv sv ch, k < w.heap.size := by
  intro k hk
  rcases mem_devBlocks.1 hk with rfl | hk | hk | hk
  · exact h.line.has.inside
  · exact (World.ownsRow.lt h.rowp k hk).2
  · exact (World.ownsRow.lt h.rows k hk).2
  · subst hk
    exact h.line.chlt

theorem DevMem.newPages {w w1 : World} {p : Nat} {s : DevS} {pv sv v1 : Value} {ch : Option Nat} (h : DevMem w p s pv sv ch) (xs : List ByteArray) (h1 : w1.ownsRow 0 9 1 v1 xs.length (xs.map Value.string))
    (h2 : v1.ownBlock = pv.ownBlock ∧ pv.ownBlock ≠ none ∨ ∃ k, v1.ownBlock = some k ∧ w.heap.size < k) (h3 : w.grownBy w1 pv.ownBlock) :
    DevMem (w1.setCell ⟨p, 3, none⟩ v1) p { s with pages := xs } v1 sv ch ∧ Goes (devBlocks p pv sv ch) w (devBlocks p v1 sv ch) (w1.setCell ⟨p, 3, none⟩ v1) := by
  obtain ⟨n1, n2, n3⟩ := nodup_devBlocks.1 h.nodup
  have hlt := h.lt
  have hplt : p < w.heap.size := hlt p (mem_devBlocks.2 (.inl rfl))
  have hk1 : Kept (devBlocks p pv sv ch) w w1 := Kept.of_grown h3 (fun k e => mem_devBlocks.2 (.inr (.inl e)))
  have hkp : Kept pv.ownBlock.toList w w1 := Kept.of_grown h3 (fun k e => by simpa using e)
  have hl1 : LineAt w1 p 66 (devCells s pv sv ch) 5 s.line s.cap ch := h.line.kept hkp (by simp; intro e; exact (n1 p e).1 rfl) (fun c e => by simp; intro e2; exact (n1 c e2).2.2 e)
  have hs1 := row_kept h.rows hkp (fun g e => by simp; intro e2; exact (n1 g e2).2.1 e)
  have hkq : Kept [p] w1 (w1.setCell ⟨p, 3, none⟩ v1) := (Kept.refl _ _).setCell (.inl (by simp)) _
  have hv1 : ∀ k, v1.ownBlock = some k → k ≠ p ∧ sv.ownBlock ≠ some k ∧ ch ≠ some k := by
    intro k hk
    rcases h2 with ⟨e, _⟩ | ⟨k2, e, hlt2⟩
    · exact n1 k (e ▸ hk)
    · rw [e] at hk
      obtain rfl := Option.some.inj hk
      refine ⟨by omega, fun e2 => ?_, fun e2 => ?_⟩
      · have := hlt k2 (mem_devBlocks.2 (.inr (.inr (.inl e2))))
        omega
      · have := hlt k2 (mem_devBlocks.2 (.inr (.inr (.inr e2))))
        omega
  refine ⟨⟨hl1.putOther 3 (by decide) v1, row_kept h1 hkq (fun g e => by simpa using (hv1 g e).1), row_kept hs1 hkq (fun g e => by simpa using (n2 g e).1), nodup_devBlocks.2 ⟨hv1, n2, n3⟩⟩, hk1.then_ hkq (fun i hi => .inl (mem_devBlocks.2 (.inl (by simpa using hi)))), fun k hk => ?_⟩
  rcases mem_devBlocks.1 hk with rfl | hk | hk | hk
  · exact .inl (mem_devBlocks.2 (.inl rfl))
  · rcases h2 with ⟨e, _⟩ | ⟨k2, e, hlt2⟩
    · exact .inl (mem_devBlocks.2 (.inr (.inl (e ▸ hk))))
    · rw [e] at hk
      obtain rfl := Option.some.inj hk
      exact .inr (by omega)
  · exact .inl (mem_devBlocks.2 (.inr (.inr (.inl hk))))
  · exact .inl (mem_devBlocks.2 (.inr (.inr (.inr hk))))

theorem DevMem.newSynced {w w1 : World} {p : Nat} {s : DevS} {pv sv v1 : Value} {ch : Option Nat} (h : DevMem w p s pv sv ch) (xs : List ByteArray) (h1 : w1.ownsRow 0 9 1 v1 xs.length (xs.map Value.string))
    (h2 : v1.ownBlock = sv.ownBlock ∧ sv.ownBlock ≠ none ∨ ∃ k, v1.ownBlock = some k ∧ w.heap.size < k) (h3 : w.grownBy w1 sv.ownBlock) :
    DevMem (w1.setCell ⟨p, 4, none⟩ v1) p { s with synced := xs } pv v1 ch ∧ Goes (devBlocks p pv sv ch) w (devBlocks p pv v1 ch) (w1.setCell ⟨p, 4, none⟩ v1) := by
  obtain ⟨n1, n2, n3⟩ := nodup_devBlocks.1 h.nodup
  have hlt := h.lt
  have hplt : p < w.heap.size := hlt p (mem_devBlocks.2 (.inl rfl))
  have hk1 : Kept (devBlocks p pv sv ch) w w1 := Kept.of_grown h3 (fun k e => mem_devBlocks.2 (.inr (.inr (.inl e))))
  have hkp : Kept sv.ownBlock.toList w w1 := Kept.of_grown h3 (fun k e => by simpa using e)
  have hl1 : LineAt w1 p 66 (devCells s pv sv ch) 5 s.line s.cap ch := h.line.kept hkp (by simp; intro e; exact (n2 p e).1 rfl) (fun c e => by simp; intro e2; exact (n2 c e2).2 e)
  have hp1 := row_kept h.rowp hkp (fun g e => by simp; exact (n1 g e).2.1)
  have hkq : Kept [p] w1 (w1.setCell ⟨p, 4, none⟩ v1) := (Kept.refl _ _).setCell (.inl (by simp)) _
  have hv1 : ∀ k, v1.ownBlock = some k → k ≠ p ∧ ch ≠ some k := by
    intro k hk
    rcases h2 with ⟨e, _⟩ | ⟨k2, e, hlt2⟩
    · exact n2 k (e ▸ hk)
    · rw [e] at hk
      obtain rfl := Option.some.inj hk
      refine ⟨by omega, fun e2 => ?_⟩
      have := hlt k2 (mem_devBlocks.2 (.inr (.inr (.inr e2))))
      omega
  have hv2 : ∀ k, pv.ownBlock = some k → k ≠ p ∧ v1.ownBlock ≠ some k ∧ ch ≠ some k := by
    intro k hk
    refine ⟨(n1 k hk).1, fun e2 => ?_, (n1 k hk).2.2⟩
    rcases h2 with ⟨e, _⟩ | ⟨k2, e, hlt2⟩
    · exact (n1 k hk).2.1 (e ▸ e2)
    · rw [e] at e2
      obtain rfl := Option.some.inj e2
      have := hlt k2 (mem_devBlocks.2 (.inr (.inl hk)))
      omega
  refine ⟨⟨hl1.putOther 4 (by decide) v1, row_kept hp1 hkq (fun g e => by simpa using (n1 g e).1), row_kept h1 hkq (fun g e => by simpa using (hv1 g e).1), nodup_devBlocks.2 ⟨hv2, hv1, n3⟩⟩, hk1.then_ hkq (fun i hi => .inl (mem_devBlocks.2 (.inl (by simpa using hi)))), fun k hk => ?_⟩
  rcases mem_devBlocks.1 hk with rfl | hk | hk | hk
  · exact .inl (mem_devBlocks.2 (.inl rfl))
  · exact .inl (mem_devBlocks.2 (.inr (.inl hk)))
  · rcases h2 with ⟨e, _⟩ | ⟨k2, e, hlt2⟩
    · exact .inl (mem_devBlocks.2 (.inr (.inr (.inl (e ▸ hk)))))
    · rw [e] at hk
      obtain rfl := Option.some.inj hk
      exact .inr (by omega)
  · exact .inl (mem_devBlocks.2 (.inr (.inr (.inr hk))))

/-- A device as New makes it. -/
def newS (n : Int) : DevS := { most := n, on := true, fuse := -1, pages := [], synced := [], line := [], cap := 0 }

set_option maxHeartbeats 400000 in
theorem new_bad (n : Int) (w : World) (h : n < 1 ∨ 3000 < n) : Calls Tryd.prog 13 #[.int .i64 n] w fun e w' => e = .returned (.tuple #[.pointer none, .int .i64 1]) ∧ w = w' := by
  by_cases h1 : n < 1
  · have hb : decide (n < 1) = true := by simpa using h1
    clear h
    go_enter Tryd.func13, Tryd.ntmps13
    go_wp2
    go_ret2
    exact ⟨rfl, rfl⟩
  · have hb : decide (n < 1) = false := by simpa using h1
    have h3 : 3000 < n := by omega
    clear h
    go_enter Tryd.func13, Tryd.ntmps13
    go_wp2
    go_ret2
    exact ⟨rfl, rfl⟩
set_option maxHeartbeats 400000 in
theorem new_ok (n : Int) (w : World) (h1 : 1 ≤ n) (h2 : n ≤ 3000) :
    Calls Tryd.prog 13 #[.int .i64 n] w fun e w' => e = .returned (.tuple #[.pointer (some ⟨w.heap.size, 0, none⟩), .int .i64 0]) ∧ DevAt w' w.heap.size (newS n) [w.heap.size] ∧ Below w.heap.size w w' := by
  have hb : decide (n < 1) = false := by simpa using h1
  have hD : DevAt (w.alloc (.cells #[.int .i64 n, .bool true, .int .i64 (-1), .slice none 0 0, .slice none 0 0, .chan none] 66)) w.heap.size (newS n) [w.heap.size] := by
    refine ⟨.slice none 0 0, .slice none 0 0, none, ⟨Has.made _ _ _, rfl, fun _ => ⟨rfl, rfl⟩, (fun c e => by cases e), by simp [newS], (fun c e => by cases e)⟩, World.ownsRow_nil _ _ _ _, World.ownsRow_nil _ _ _ _, rfl, by simp, ⟨⟨by simp [newS]; omega, by simp [newS]; omega⟩, by simp [newS], rfl, by simp [newS], by simp [newS], by simp [newS], by simp [newS]⟩⟩
  have HD := Lib.hid hD
  clear hD
  go_enter Tryd.func13, Tryd.ntmps13
  go_wp2
  go_ret2
  exact ⟨rfl, HD.out, (Below.refl _ _).alloc (Nat.le_refl _) _⟩
end Go.Proofs.YtccajgdfjinjbaaDoor
