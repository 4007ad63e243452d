/-
  append of one element to a row of one's own, within a fence: the row stays in its block, or lies in a new one.
-/
import Derived.Test.YtpoocbkligjgbaaGreatDoorMg3
import Derived.OwnWalkIn
namespace Go.Proofs.YtpoocbkligjgbaaGreatDoor
open Go.RowKit

theorem run_append_fresh (t ty e : TypeId) (z : Value) (nb : Nat) (ht : Tryz.prog.underlying t = some (.slice e))
    (hinfo : (Tryz.prog.info? e).map (fun i => (i.zero, i.size, i.bytes)) = some (some z, 1, nb)) (hzs : z.cells.size = 1) (hnb : nb ≤ 16)
    (w : World) (v : Value) (n : Nat) (xs : List Value) (hown : w.ownsRow 0 e 1 v n xs) (u : Value) (hu : u.oneCell' = true) (hlen : n ≤ 1000000) :
    ∃ v' w', (Builtin.append_ #[t, t] ty #[v, .slice (some ⟨w.heap.size, 0, none⟩) 1 1]).run Tryz.prog (w.alloc (.cells #[u] e)) = .ok v' w' ∧ w'.ownsRow 0 e 1 v' (n + 1) (xs ++ [u]) ∧
      (v'.ownBlock = v.ownBlock ∧ v.ownBlock ≠ none ∨ ∃ k, v'.ownBlock = some k ∧ w.heap.size < k) ∧ w.grownBy w' v.ownBlock := by
  obtain ⟨i0, hi, hz0, hz1, hz2⟩ := info_parts hinfo
  have hmul : (n + 1) * nb ≤ 17000000 := by
    have := Nat.mul_le_mul (show n + 1 ≤ 1000001 by omega) hnb
    omega
  have hra := World.ownsRow.alloc hown (.cells #[u] e)
  have hgr : ∀ (row : Option Nat) (w' : World), (w.alloc (.cells #[u] e)).grownBy w' row → w.grownBy w' row := fun row w' h2 => grownBy_trans (World.grownBy_alloc w _ row) h2
  have h1 : ∀ y ∈ [u], y.oneCell' = true := by intro y hy; simp at hy; subst hy; exact hu
  rcases hown.2 with ⟨rfl, rfl⟩ | ⟨g, cap, cur, rfl, _, hg, hnc, hcm, hcs, htake⟩
  · have hxs : xs = [] := List.eq_nil_of_length_eq_zero (by simpa using hown.1)
    subst hxs
    obtain ⟨v', w', hrun, h2, h3, h4⟩ := run_append_own (P := Tryz.prog) (w.alloc (.cells #[u] e)) (w.heap.size + 1) t ty e i0 z 1 nb ht hi hz0 hz1 hz2 hzs (by decide) _ 0 [] (World.ownsRow_nil _ _ _ _) ⟨w.heap.size, 0, none⟩ 1 1 [u] rfl (cell_one_new _ _ _) h1 (by unfold maxLen; omega) (by omega) (by simp)
    refine ⟨v', w', hrun, row_base h2 (fun _ _ => Nat.zero_le _), .inr ?_, hgr _ _ h3⟩
    rcases h2.2 with ⟨_, h5⟩ | ⟨g, cap, cur, rfl, hb, _⟩
    · omega
    · exact ⟨g, rfl, by omega⟩
  · by_cases hroom : n + 1 ≤ cap
    · obtain ⟨w', hrun, h2, h3⟩ := run_append_fits (P := Tryz.prog) (w.alloc (.cells #[u] e)) 0 t ty e i0 1 ht hi hz1 g n cap xs hra ⟨w.heap.size, 0, none⟩ 1 1 [u] rfl (cell_one_new _ _ _) h1 hroom
      exact ⟨_, w', hrun, h2, .inl ⟨rfl, by simp [Value.ownBlock]⟩, hgr _ _ h3⟩
    · have holds := hra.cells (g := g) rfl
      have hl1 : xs.length = n * i0.size := by rw [hz1]; exact hown.1
      have hr := run_append_grow (P := Tryz.prog) (w := w.alloc (.cells #[u] e)) t ty e i0 z ht hi hz0 ⟨g, 0, none⟩ n cap xs hl1 holds ⟨w.heap.size, 0, none⟩ 1 1 [u] (by simp [hz1]) (cell_one_new _ _ _) (by omega) (by omega) (growslice_fits (by omega) (by rw [hz2]; omega))
      refine ⟨_, _, hr, ?_, .inr ⟨_, rfl, by simp⟩, hgr _ _ ?_⟩
      · have hge := grownCap_ge (w.alloc (.cells #[u] e)) (n + 1) cap e
        have hcm2 := grownCap_le_maxLen (w.alloc (.cells #[u] e)) (n + 1) cap e (by unfold maxLen; omega)
        generalize grownCap (w.alloc (.cells #[u] e)) (n + 1) cap e = C at *
        have hlx : xs.length = n := by simpa using hown.1
        refine ⟨by simp [hlx], .inr ⟨_, _, _, rfl, Nat.zero_le _, heap_alloc_new (w.alloc (.cells #[u] e)).drew _, hge, hcm2, ?_, ?_⟩⟩
        · simp only [Array.size_append, List.size_toArray, size_zeroCells, hzs, hlx, List.length_singleton]
          omega
        · simp only [Array.toList_append, List.append_assoc]
          rw [← List.append_assoc, List.take_append_of_le_length (by simp [hlx]), List.take_of_length_le (by simp [hlx])]
      · exact ⟨rfl, rfl, rfl, by simp, fun k hk _ => Below.heap_alloc (w.alloc (.cells #[u] e)).drew _ k hk⟩

end Go.Proofs.YtpoocbkligjgbaaGreatDoor
