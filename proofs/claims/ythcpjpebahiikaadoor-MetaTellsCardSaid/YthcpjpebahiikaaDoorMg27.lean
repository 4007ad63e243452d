/-
  append of one element to a row of one's own: the row stays in its block, or lies in a new one.
-/
import Derived.Test.YthcpjpebahiikaaDoorMg2
import Derived.Laws.AppendOwnNone
namespace Go.Proofs.YthcpjpebahiikaaDoor
open Go.RowKit

theorem row_base {w : World} {base base' : Nat} {e : TypeId} {v : Value} {n : Nat} {xs : List Value} (h : w.ownsRow base e 1 v n xs) (hb : ∀ g, v.ownBlock = some g → base' ≤ g) : w.ownsRow base' e 1 v n xs := by
  refine ⟨h.1, ?_⟩
  rcases h.2 with hn | ⟨g, cap, cur, rfl, _, rest⟩
  · exact .inl hn
  · exact .inr ⟨g, cap, cur, rfl, hb g rfl, rest⟩

theorem append_fresh {ops : Array Oper} {rest : List Oper} {o : Oper} {a : Act} {Q : Exit → Act → World → Prop} (hgd : o.guard = none) (s x : Operand) (t e : TypeId) (z : Value) (nb : Nat) (ht : Tryd.prog.underlying t = some (.slice e))
    (hinfo : (Tryd.prog.info? e).map (fun i => (i.zero, i.size, i.bytes)) = some (some z, 1, nb)) (hzs : z.cells.size = 1) (hnb : nb ≤ 16)
    (ho : o.op = .call { callee := .builtin .append, args := #[s, x], argTypes := #[t, t] }) (w : World) (v : Value) (n : Nat) (xs : List Value) (hs : a.eval s = v) (hown : w.ownsRow 0 e 1 v n xs) (u : Value) (hu : u.oneCell' = true)
    (B : Nat) (hB : B = w.heap.size) (hx : a.eval x = .slice (some ⟨B, 0, none⟩) 1 1) (hlen : n ≤ 1000000)
    (h : ∀ v' w', w'.ownsRow 0 e 1 v' (n + 1) (xs ++ [u]) → (v'.ownBlock = v.ownBlock ∧ v.ownBlock ≠ none ∨ ∃ k, v'.ownBlock = some k ∧ w.heap.size < k) → w.grownBy w' v.ownBlock → wpList Tryd.prog ops Q rest (a.put o.dst v') w') :
    wpList Tryd.prog ops Q (o :: rest) a (w.alloc (.cells #[u] e)) := by
  subst hB
  obtain ⟨i0, hi, hz0, hz1, hz2⟩ := info_parts hinfo
  have hmul : (n + 1) * nb ≤ 17000000 := by
    have := Nat.mul_le_mul (show n + 1 ≤ 1000001 by omega) hnb
    omega
  have hra := World.ownsRow.alloc hown (.cells #[u] e)
  have hgr : ∀ (row : Option Nat) (w' : World), (w.alloc (.cells #[u] e)).grownBy w' row → w.grownBy w' row := fun row w' h2 => grownBy_trans (World.grownBy_alloc w _ row) h2
  have h1 : ∀ y ∈ [u], y.oneCell' = true := by intro y hy; simp at hy; subst hy; exact hu
  rcases hown.2 with ⟨rfl, rfl⟩ | ⟨g, cap, cur, rfl, _, hg, hnc, hcm, hcs, htake⟩
  · have hxs : xs = [] := List.eq_nil_of_length_eq_zero (by simpa using hown.1)
    subst hxs
    refine wpList_append_own _ hgd s x t ho (w.heap.size + 1) e i0 z 1 nb ht hi hz0 hz1 hz2 hzs (by decide) _ 0 [] hs (World.ownsRow_nil _ _ _ _) ⟨w.heap.size, 0, none⟩ 1 1 [u] hx rfl (cell_one_new _ _ _) h1 (by unfold maxLen; omega) (by omega) (by simp) ?_
    intro v' w' h2 h3 h4
    refine h v' w' (row_base h2 (fun _ _ => Nat.zero_le _)) (.inr ?_) (hgr _ _ h3)
    rcases h2.2 with ⟨_, h5⟩ | ⟨g, cap, cur, rfl, hb, _⟩
    · omega
    · exact ⟨g, rfl, by omega⟩
  · by_cases hroom : n + 1 ≤ cap
    · refine wpList_append_fits _ hgd s x t ho 0 e i0 1 ht hi hz1 g n cap xs hs hra ⟨w.heap.size, 0, none⟩ 1 1 [u] hx rfl (cell_one_new _ _ _) h1 hroom ?_
      intro w' h2 h3
      exact h _ w' h2 (.inl ⟨rfl, by simp [Value.ownBlock]⟩) (hgr _ _ h3)
    · refine wpList_plain hgd fun K hK => ?_
      have holds := hra.cells (g := g) rfl
      have hl1 : xs.length = n * i0.size := by rw [hz1]; exact hown.1
      have hr := run_append_grow (P := Tryd.prog) (w := w.alloc (.cells #[u] e)) t o.type e i0 z ht hi hz0 ⟨g, 0, none⟩ n cap xs hl1 holds ⟨w.heap.size, 0, none⟩ 1 1 [u] (by simp [hz1]) (cell_one_new _ _ _) (by omega) (by omega) (growslice_fits (by omega) (by rw [hz2]; omega))
      unfold Oper.wp execOp
      simp only [ho, resolve, invoke, builtin, Sem.run_bind, Sem.run_pure, Result.andThen_ok, List.map_toArray, List.map_cons, List.map_nil, hs, hx, hr]
      refine hK _ _ (h _ _ ?_ (.inr ⟨_, rfl, by simp⟩) (hgr _ _ ?_))
      · have hge := grownCap_ge (w.alloc (.cells #[u] e)) (n + 1) cap e
        have hcm2 := grownCap_le_maxLen (w.alloc (.cells #[u] e)) (n + 1) cap e (by unfold maxLen; omega)
        generalize grownCap (w.alloc (.cells #[u] e)) (n + 1) cap e = C at *
        have hlx : xs.length = n := by simpa using hown.1
        refine ⟨by simp [hlx], .inr ⟨_, _, _, rfl, Nat.zero_le _, heap_alloc_new (w.alloc (.cells #[u] e)).drew _, hge, hcm2, ?_, ?_⟩⟩
        · simp only [Array.size_append, List.size_toArray, size_zeroCells, hzs, hlx, List.length_singleton]
          omega
        · simp only [Array.toList_append, List.append_assoc]
          rw [← List.append_assoc, List.take_append_of_le_length (by simp [hlx]), List.take_of_length_le (by simp [hlx])]
      · exact ⟨rfl, rfl, rfl, by simp, fun k hk _ => Below.heap_alloc (w.alloc (.cells #[u] e)).drew _ k hk⟩
end Go.Proofs.YthcpjpebahiikaaDoor
