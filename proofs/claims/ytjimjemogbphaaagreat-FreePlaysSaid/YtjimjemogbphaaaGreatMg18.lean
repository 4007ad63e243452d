/-
  The statements' book: one that is new; one more list is kept. Appending what can be read, in a region whose order is open; two operations that may go either way.
-/
import Derived.Test.YtjimjemogbphaaaGreatMg17
namespace Go.Proofs.YtjimjemogbphaaaGreat
open Go.RowKit

/-- A book that is new. -/
theorem BookAt.new (w : World) : BookAt (w.alloc (.cells (bookCells nilV nilV nilV nilV) 61)) w.heap.size nilV nilV [] nilV nilV [] := by
  have hf : foot (shelfI nilV nilV []) = [] := rfl
  have hf2 : foot (BD.shelfI nilV nilV []) = [] := rfl
  refine ⟨Has.made w _ _, ⟨fun r hr => ?_, by rw [hf]; exact List.nodup_nil⟩, ⟨fun r hr => ?_, by rw [hf2]; exact List.nodup_nil⟩, by rw [hf]; simp, by rw [hf2]; simp, by rw [hf]; simp⟩
  · simp only [shelfI, List.map_nil, List.append_nil, List.mem_cons, List.not_mem_nil, or_false] at hr
    rcases hr with rfl | rfl <;> exact World.ownsRow_nil _ _ _ _
  · simp only [BD.shelfI, List.map_nil, List.append_nil, List.mem_cons, List.not_mem_nil, or_false] at hr
    rcases hr with rfl | rfl <;> exact World.ownsRow_nil _ _ _ _

section
variable {w w' : World} {p : Nat} {hv hc : Value} {L : List KeptI} {dv dc : Value} {M : List BD.KeptI}
/-- Other blocks turn. -/
theorem BookAt.kept {F : List Nat} (h : BookAt w p hv hc L dv dc M) (hk : Kept F w w') (hF : ∀ g ∈ bookFoot p hv hc L dv dc M, g ∉ F) : BookAt w' p hv hc L dv dc M :=
  ⟨h.has.kept hk (hF p (by simp [bookFoot])), h.ints.kept hk (fun g hg => hF g (List.mem_cons_of_mem _ (List.mem_append.2 (.inl hg)))), h.dues.kept hk (fun g hg => hF g (List.mem_cons_of_mem _ (List.mem_append.2 (.inr hg)))), h.pI, h.pD, h.apart⟩
theorem BookAt.lt (h : BookAt w p hv hc L dv dc M) : ∀ g ∈ bookFoot p hv hc L dv dc M, g < w.heap.size := fun g hg => by
  rcases List.mem_cons.1 hg with rfl | hg
  · exact h.has.inside
  · exact (List.mem_append.1 hg).elim (h.ints.lt g) (h.dues.lt g)

/-- One more list of numbers. -/
theorem BookAt.moreI {v : Value} {xs : List Int} (h : BookAt w p hv hc L dv dc M) (hv0 : ∀ g, v.ownBlock = some g → g ∉ bookFoot p hv hc L dv dc M) (hE : KeepEndI p (bookCells hv hc dv dc) hv hc L v xs w w') :
    ∃ hv' hc' c, BookAt w' p hv' hc' (L ++ [⟨v, c, xs⟩]) dv dc M ∧ Kept (bookFoot p hv hc L dv dc M) w w' ∧ ∀ g ∈ bookFoot p hv' hc' (L ++ [⟨v, c, xs⟩]) dv dc M, g ∈ bookFoot p hv hc L dv dc M ∨ v.ownBlock = some g ∨ w.heap.size ≤ g := by
  obtain ⟨hv', hc', c, h1, h2, h3, h4, h5⟩ := hE
  have hd : ∀ g ∈ foot (BD.shelfI dv dc M), g ∉ p :: foot (shelfI hv hc L) := fun g hg hg' => by
    rcases List.mem_cons.1 hg' with rfl | hg'
    · exact h.pD hg
    · exact h.apart g hg' hg
  refine ⟨hv', hc', c, ⟨h1, h2, h.dues.kept h4 hd, h3, h.pD, fun g hg hg' => ?_⟩, h4.mono (fun g hg => .inl ?_), fun g hg => ?_⟩
  · rcases h5 g hg with h6 | h6 | h6
    · exact h.apart g h6 hg'
    · exact hv0 g h6 (List.mem_cons_of_mem _ (List.mem_append.2 (.inr hg')))
    · have := h.dues.lt g hg'
      omega
  · rcases List.mem_cons.1 hg with rfl | hg
    · exact List.mem_cons_self
    · exact List.mem_cons_of_mem _ (List.mem_append.2 (.inl hg))
  · rcases List.mem_cons.1 hg with rfl | hg
    · exact .inl List.mem_cons_self
    · rcases List.mem_append.1 hg with hg | hg
      · exact (h5 g hg).imp (fun h6 => List.mem_cons_of_mem _ (List.mem_append.2 (.inl h6))) id
      · exact .inl (List.mem_cons_of_mem _ (List.mem_append.2 (.inr hg)))

/-- One more list of what is due. -/
theorem BookAt.moreD {v : Value} {xs : List Due} (h : BookAt w p hv hc L dv dc M) (hv0 : ∀ g, v.ownBlock = some g → g ∉ bookFoot p hv hc L dv dc M) (hE : BD.KeepEndI p (bookCells hv hc dv dc) dv dc M v xs w w') :
    ∃ dv' dc' c, BookAt w' p hv hc L dv' dc' (M ++ [⟨v, c, xs⟩]) ∧ Kept (bookFoot p hv hc L dv dc M) w w' ∧ ∀ g ∈ bookFoot p hv hc L dv' dc' (M ++ [⟨v, c, xs⟩]), g ∈ bookFoot p hv hc L dv dc M ∨ v.ownBlock = some g ∨ w.heap.size ≤ g := by
  obtain ⟨dv', dc', c, h1, h2, h3, h4, h5⟩ := hE
  have hd : ∀ g ∈ foot (shelfI hv hc L), g ∉ p :: foot (BD.shelfI dv dc M) := fun g hg hg' => by
    rcases List.mem_cons.1 hg' with rfl | hg'
    · exact h.pI hg
    · exact h.apart g hg hg'
  refine ⟨dv', dc', c, ⟨h1, h.ints.kept h4 hd, h2, h.pI, h3, fun g hg hg' => ?_⟩, h4.mono (fun g hg => .inl ?_), fun g hg => ?_⟩
  · rcases h5 g hg' with h6 | h6 | h6
    · exact h.apart g hg h6
    · exact hv0 g h6 (List.mem_cons_of_mem _ (List.mem_append.2 (.inl hg)))
    · have := h.ints.lt g hg
      omega
  · rcases List.mem_cons.1 hg with rfl | hg
    · exact List.mem_cons_self
    · exact List.mem_cons_of_mem _ (List.mem_append.2 (.inr hg))
  · rcases List.mem_cons.1 hg with rfl | hg
    · exact .inl List.mem_cons_self
    · rcases List.mem_append.1 hg with hg | hg
      · exact .inl (List.mem_cons_of_mem _ (List.mem_append.2 (.inl hg)))
      · exact (h5 g hg).imp (fun h6 => List.mem_cons_of_mem _ (List.mem_append.2 (.inr h6))) id
end

/-- The call that keeps a list of numbers. -/
theorem keepI_any {w : World} {p : Nat} {hv hc : Value} {L : List KeptI} {dv dc : Value} {M : List BD.KeptI} {v : Value} {xs : List Int} (h : BookAt w p hv hc L dv dc M) (hrow : w.ownsRow 0 3 1 v xs.length (cellsI xs)) (hv0 : ∀ g, v.ownBlock = some g → g ∉ bookFoot p hv hc L dv dc M) (hL : L.length < 250) (hx : xs.length ≤ 1000000) :
    Calls Tryz.prog 24 #[.pointer (some ⟨p, 0, none⟩), v] w fun e w' => e = .returned (.tuple #[]) ∧ ∃ hv' hc' c, BookAt w' p hv' hc' (L ++ [⟨v, c, xs⟩]) dv dc M ∧ Kept (bookFoot p hv hc L dv dc M) w w' ∧ ∀ g ∈ bookFoot p hv' hc' (L ++ [⟨v, c, xs⟩]) dv dc M, g ∈ bookFoot p hv hc L dv dc M ∨ v.ownBlock = some g ∨ w.heap.size ≤ g := by
  refine (bkInts_any h.has (by rfl) (by rfl) h.ints h.pI hrow (fun g hg => ⟨fun e => hv0 g hg (by rw [e]; exact List.mem_cons_self), fun e => hv0 g hg (List.mem_cons_of_mem _ (List.mem_append.2 (.inl e)))⟩) hL hx).mono ?_
  rintro e w' ⟨rfl, hE⟩
  exact ⟨rfl, h.moreI hv0 hE⟩

end Go.Proofs.YtjimjemogbphaaaGreat

namespace Go.Proofs.YtjimjemogbphaaaGreat
open Go.RowKit

/-- append(row, v...) in a region whose order is open. -/
theorem wp_append_reads {K : Act → World → Prop} {o : Oper} {a : Act} {Q : Exit → Act → World → Prop} (s x : Operand) (t e : TypeId) (z : Value) (nb : Nat) (ht : Tryz.prog.underlying t = some (.slice e)) (hinfo : (Tryz.prog.info? e).map (fun i => (i.zero, i.size, i.bytes)) = some (some z, 1, nb)) (hzs : z.cells.size = 1) (hnb : nb ≤ 16)
    (ho : o.op = .call { callee := .builtin .append, args := #[s, x], argTypes := #[t, t] }) (base : Nat) (wr : World) (d : Value) (n : Nat) (xs : List Value) (hs : a.eval s = d) (hown : wr.ownsRow base e 1 d n xs) (B : Nat) (v : Value) (hx : a.eval x = v) (vals : List Value) (hr : Reads1 wr B v vals)
    (hform : ∀ n c, v = .slice none n c → n = 0 ∧ c = 0) (h1 : ∀ u ∈ vals, u.oneCell' = true) (hlen : n + vals.length ≤ 1000000) (hbase : base ≤ wr.heap.size)
    (h : ∀ v' w', w'.ownsRow base e 1 v' (n + vals.length) (xs ++ vals) → wr.grownBy w' d.ownBlock → K (a.put o.dst v') w') : o.wp Tryz.prog a wr K Q := by
  obtain ⟨i0, hi, hz0, hz1, hz2⟩ := info_parts hinfo
  obtain ⟨A, c, rfl, hc⟩ := hr
  have hmul : (n + vals.length) * nb ≤ 16000000 := by
    have := Nat.mul_le_mul hlen hnb
    omega
  cases A with
  | none =>
    obtain ⟨h0, rfl⟩ := hform _ _ rfl
    obtain rfl : vals = [] := List.eq_nil_of_length_eq_zero h0
    have hrun := run_append_owned_none (P := Tryz.prog) (w := wr) base t o.type e i0 1 ht hi d n xs hown
    have h2 := h d wr (by simpa using hown) ⟨rfl, rfl, rfl, Nat.le_refl _, fun _ _ _ => rfl⟩
    unfold Oper.wp
    simp only [List.length_nil] at hx
    simp [execOp, ho, resolve, invoke, builtin, hs, hx, hrun, Result.andThen]
    exact h2
  | some ad =>
    have hcells : ∀ j u, vals[j]? = some u → wr.cell? (ad.add j) = some u := by
      intro j u hu
      have hj := (List.getElem?_eq_some_iff.1 hu).1
      obtain ⟨b, off, hA, _, hcell⟩ := hc (by omega)
      obtain rfl := Option.some.inj hA
      rw [Go.WideShapes.add_plain]
      exact hcell j u hu
    exact wp_append_own wr s x t ho base e i0 z 1 nb ht hi hz0 hz1 hz2 hzs (by decide) _ n xs hs hown ad vals.length c vals hx (by simp) hcells h1 (by unfold maxLen; omega) (by omega) hbase (fun v' w' h2 h3 _ => h v' w' h2 h3)

/-- Two are ready. -/
theorem till_two {P : Program} {ops : Array Oper} {Q : Exit → Act → World → Prop} {md : Region.Mode} {S : World → Prop} {last : Nat} {i j : Nat} {oi oj : Oper} {n : Nat} {seen : Array Bool} {a : Act} {w : World} (hr : Region.ready md ops seen = [i, j]) (hi : ops[i]? = some oi) (hj : ops[j]? = some oj) (hg : oi.guard = none) (hg' : oj.guard = none)
    (h : ∀ K : Act → World → Prop, (∀ a' w', ((i < last → S w') ∧ Till P md ops Q S last n (seen.setIfInBounds i true) a' w') → K a' w') → oi.wp P a w K Q)
    (h' : ∀ K : Act → World → Prop, (∀ a' w', ((j < last → S w') ∧ Till P md ops Q S last n (seen.setIfInBounds j true) a' w') → K a' w') → oj.wp P a w K Q) : Till P md ops Q S last (n + 1) seen a w := by
  refine ⟨(fun h0 => by rw [hr] at h0; cases h0), fun k hk => ?_⟩
  rw [hr] at hk
  simp only [List.mem_cons, List.not_mem_nil, or_false] at hk
  unfold wpOp
  rcases hk with rfl | rfl
  · simp only [hi]
    rw [if_pos (by simp [Region.wanted, hg])]
    exact .inl (h _ fun _ _ hh => hh)
  · simp only [hj]
    rw [if_pos (by simp [Region.wanted, hg'])]
    exact .inl (h' _ fun _ _ hh => hh)
end Go.Proofs.YtjimjemogbphaaaGreat
