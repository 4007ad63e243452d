/-
  FreeChains: both answers in one form; what a round hands out, what of it is kept, what of it stays.
-/
import Derived.Test.YtlalhinodmmgfaaGreatMg22
import Derived.Test.YtlalhinodmmgfaaGreatMg31
import Derived.Test.YtlalhinodmmgfaaGreatMg29
import Derived.Test.YtlalhinodmmgfaaGreatMg32
namespace Go.Proofs.YtlalhinodmmgfaaGreat.BQ
open Go.RowKit Go.Lib

/-- What Chain tells of numbers. -/
noncomputable def chL (l : List Int) : List ByteArray := @ite _ (∀ x ∈ l, fits x) (Classical.propDecidable _) (chTo l l.length).1 []
noncomputable def chE (l : List Int) : Int := @ite _ (∀ x ∈ l, fits x) (Classical.propDecidable _) 0 1
/-- What Unchain tells of bodies. -/
noncomputable def unL (B : List ByteArray) : List Int := @ite _ (∀ s ∈ B, s.size % 4 = 0) (Classical.propDecidable _) (unch B) []
noncomputable def unE (B : List ByteArray) : Int := @ite _ (∀ s ∈ B, s.size % 4 = 0) (Classical.propDecidable _) 0 4
theorem ch_yes {l : List Int} (h : ∀ x ∈ l, fits x) : chL l = (chTo l l.length).1 ∧ chE l = 0 := ⟨by unfold chL; rw [if_pos h], by unfold chE; rw [if_pos h]⟩
theorem ch_no {l : List Int} (h : ¬ ∀ x ∈ l, fits x) : chL l = [] ∧ chE l = 1 := ⟨by unfold chL; rw [if_neg h], by unfold chE; rw [if_neg h]⟩
theorem un_yes {B : List ByteArray} (h : ∀ s ∈ B, s.size % 4 = 0) : unL B = unch B ∧ unE B = 0 := ⟨by unfold unL; rw [if_pos h], by unfold unE; rw [if_pos h]⟩
theorem un_no {B : List ByteArray} (h : ¬ ∀ s ∈ B, s.size % 4 = 0) : unL B = [] ∧ unE B = 4 := ⟨by unfold unL; rw [if_neg h], by unfold unE; rw [if_neg h]⟩
theorem ch_back {l : List Int} (h : chE l = 0) : unL (chL l) = l ∧ unE (chL l) = 0 := by
  by_cases hf : ∀ x ∈ l, fits x
  · obtain ⟨e1, e2⟩ := unch_chain l hf
    rw [(ch_yes hf).1]
    have h4 := un_yes (B := (chTo l l.length).1) (fun s hs => (e2 s hs).1)
    rw [h4.1, h4.2, e1]
    exact ⟨rfl, rfl⟩
  · rw [(ch_no hf).2] at h
    simp at h
theorem ch_small (l : List Int) : ∀ s ∈ chL l, s.size ≤ 6000 := by
  by_cases hf : ∀ x ∈ l, fits x
  · rw [(ch_yes hf).1]
    intro s hs
    have := ((unch_chain l hf).2 s hs).2
    omega
  · rw [(ch_no hf).1]
    simp
theorem ch_few {l : List Int} (hl : l.length ≤ 400) : (chL l).length ≤ 100 := by
  by_cases hf : ∀ x ∈ l, fits x
  · rw [(ch_yes hf).1, chTo_parts]
    simp only [List.length_map, List.length_range]
    omega
  · rw [(ch_no hf).1]
    simp
theorem un_few {B : List ByteArray} (h : ∀ s ∈ B, s.size ≤ 6000) (hB : B.length ≤ 100) : (unL B).length ≤ 150000 := by
  by_cases hf : ∀ s ∈ B, s.size % 4 = 0
  · rw [(un_yes hf).1]
    have := unch_few B h
    omega
  · rw [(un_no hf).1]
    simp

/-- v is a row of xs, in a block from lo up to hi. -/
def InR (lo hi : Nat) (w : World) (e : TypeId) (v : Value) (n : Nat) (xs : List Value) : Prop := w.ownsRow 0 e 1 v n xs ∧ ∀ g, v.ownBlock = some g → lo ≤ g ∧ g < hi
/-- A list with room behind it and a mark there, in block g. -/
structure LentR (lo hi : Nat) (w : World) (g cap : Nat) (vals : List Value) (mark : Value) : Prop where
  lent : Lent w 0 vals mark (.slice (some ⟨g, 0, none⟩) vals.length cap)
  lo : lo ≤ g
  hi : g < hi
section
variable {lo hi base n g cap : Nat} {w w' : World} {e : TypeId} {v mark : Value} {xs vals : List Value} {F : List Nat}
theorem InR.of (h : w.ownsRow base e 1 v n xs) : InR base w.heap.size w e v n xs := ⟨by
  refine ⟨h.1, ?_⟩
  rcases h.2 with hn | ⟨g, cap, cur, rfl, _, rest⟩
  · exact .inl hn
  · exact .inr ⟨g, cap, cur, rfl, Nat.zero_le _, rest⟩, World.ownsRow.lt h⟩
theorem InR.kept (h : InR lo hi w e v n xs) (k : Kept F w w') (hF : ∀ g ∈ F, g < lo ∨ hi ≤ g) : InR lo hi w' e v n xs :=
  ⟨row_kept h.1 k fun g hg hin => by have h1 := h.2 g hg; rcases hF g hin with h2 | h2 <;> omega, h.2⟩
theorem InR.on (h : InR lo hi w e v n xs) (hb : Below w.heap.size w w') : InR lo hi w' e v n xs := h.kept (F := []) (Kept.of_below hb) (fun g hg => by cases hg)
theorem InR.reads (h : InR lo hi w e v n xs) : Reads1 w w.heap.size v xs := row_reads1 h.1
theorem LentR.of (h : Lent w base vals mark v) : ∃ g cap, v = .slice (some ⟨g, 0, none⟩) vals.length cap ∧ LentR base w.heap.size w g cap vals mark := by
  obtain ⟨g, cap, rfl, h1, h2, h3⟩ := h
  exact ⟨g, cap, rfl, ⟨g, cap, rfl, Nat.zero_le _, h2, h3⟩, h1, h2⟩
theorem LentR.kept (h : LentR lo hi w g cap vals mark) (k : Kept F w w') (hF : ∀ g ∈ F, g < lo ∨ hi ≤ g) : LentR lo hi w' g cap vals mark := by
  obtain ⟨⟨g', cap', e, h1, h2, h3, h4, h5⟩, hlo, hhi⟩ := h
  simp only [Value.slice.injEq, Option.some.injEq, Addr.mk.injEq, and_true, true_and] at e
  obtain ⟨rfl, rfl⟩ := e
  exact ⟨⟨g, cap, rfl, h1, Nat.lt_of_lt_of_le h2 k.size, h3, h4, fun j u hu => (World.cell?_of_block (a := ⟨g, j, none⟩) (k.block g h2 (fun hin => by rcases hF g hin with h6 | h6 <;> omega))).trans (h5 j u hu)⟩, hlo, hhi⟩
theorem LentR.on (h : LentR lo hi w g cap vals mark) (hb : Below w.heap.size w w') : LentR lo hi w' g cap vals mark := h.kept (F := []) (Kept.of_below hb) (fun g hg => by cases hg)
theorem LentR.cells (h : LentR lo hi w g cap vals mark) : (∀ j u, vals[j]? = some u → w.cell? ⟨g, 0 + j, none⟩ = some u) ∧ g < w.heap.size ∧ vals.length ≤ cap := by
  obtain ⟨⟨g', cap', e, h1, h2, h3, h4, h5⟩, hlo, hhi⟩ := h
  simp only [Value.slice.injEq, Option.some.injEq, Addr.mk.injEq, and_true, true_and] at e
  obtain ⟨rfl, rfl⟩ := e
  refine ⟨fun j u hu => ?_, h2, by omega⟩
  rw [Nat.zero_add]
  refine h5 j u ?_
  rw [List.getElem?_append_left]
  · exact hu
  · exact (List.getElem?_eq_some_iff.1 hu).1
end

theorem chain_form {w : World} {g cap lo hi : Nat} {l : List Int} (h : LentR lo hi w g cap (l.map (Value.int .i64)) markI) (hl : l.length ≤ 400) (hi' : ∀ x ∈ l, IsInt x) :
    Calls Tryz.prog 8 #[.slice (some ⟨g, 0, none⟩) (l.map (Value.int .i64)).length cap] w fun e w' => ∃ v', e = .returned (.tuple #[v', .int .i64 (chE l)]) ∧ w'.ownsRow w.heap.size 9 1 v' (chL l).length ((chL l).map Value.string) ∧ Below w.heap.size w w' := by
  obtain ⟨h1, h2, h3⟩ := h.cells
  have h4 : l.length ≤ cap := by simpa using h3
  have h5 := fchain_any (b := g) (off := 0) (len := l.length) (cap := cap) (l := l) h1 h2 rfl h4 (by omega) hi'
  rw [List.length_map]
  refine h5.mono ?_
  rintro e w' ⟨⟨hf, v', rfl, hr⟩ | ⟨hf, rfl⟩, hb⟩
  · obtain ⟨e1, e2⟩ := ch_yes hf
    rw [← chTo_parts] at hr
    rw [e1, e2]
    exact ⟨v', rfl, hr, hb⟩
  · obtain ⟨e1, e2⟩ := ch_no hf
    rw [e1, e2]
    exact ⟨_, rfl, World.ownsRow_nil _ _ _ _, hb⟩
theorem refChain_form {w : World} {v : Value} {l : List Int} (h : Reads1 w w.heap.size v (l.map (Value.int .i64))) (hl : l.length ≤ 400) (hi' : ∀ x ∈ l, IsInt x) :
    Calls Tryz.prog 9 #[v] w fun e w' => ∃ v', e = .returned (.tuple #[v', .int .i64 (chE l)]) ∧ w'.ownsRow w.heap.size 9 1 v' (chL l).length ((chL l).map Value.string) ∧ Below w.heap.size w w' := by
  refine (refChain_any h (by omega) hi').mono ?_
  rintro e w' ⟨⟨hf, v', rfl, hr⟩ | ⟨hf, rfl⟩, hb⟩
  · obtain ⟨e1, e2⟩ := ch_yes hf
    rw [e1, e2]
    exact ⟨v', rfl, hr, hb⟩
  · obtain ⟨e1, e2⟩ := ch_no hf
    rw [e1, e2]
    exact ⟨_, rfl, World.ownsRow_nil _ _ _ _, hb⟩
theorem unchain_form {w : World} {v : Value} {B : List ByteArray} (h : Reads1 w w.heap.size v (B.map Value.string)) (hl : B.length ≤ 100) (hs : ∀ s ∈ B, s.size ≤ 6000) :
    Calls Tryz.prog 10 #[v] w fun e w' => ∃ v', e = .returned (.tuple #[v', .int .i64 (unE B)]) ∧ w'.ownsRow w.heap.size 3 1 v' (unL B).length (cellsI (unL B)) ∧ Below w.heap.size w w' := by
  refine (funchain_any h hl hs).mono ?_
  rintro e w' ⟨⟨hf, v', rfl, hr⟩ | ⟨hf, rfl⟩, hb⟩
  · obtain ⟨e1, e2⟩ := un_yes hf
    rw [e1, e2]
    exact ⟨v', rfl, hr, hb⟩
  · obtain ⟨e1, e2⟩ := un_no hf
    rw [e1, e2]
    exact ⟨_, rfl, World.ownsRow_nil _ _ _ _, hb⟩
theorem refUnchain_form {w : World} {v : Value} {B : List ByteArray} (h : Reads1 w w.heap.size v (B.map Value.string)) (hl : B.length ≤ 100) (hs : ∀ s ∈ B, s.size ≤ 6000) :
    Calls Tryz.prog 11 #[v] w fun e w' => ∃ v', e = .returned (.tuple #[v', .int .i64 (unE B)]) ∧ w'.ownsRow w.heap.size 3 1 v' (unL B).length (cellsI (unL B)) ∧ Below w.heap.size w w' := by
  refine (refUnchain_any h hl hs).mono ?_
  rintro e w' ⟨⟨hf, v', rfl, hr⟩ | ⟨hf, rfl⟩, hb⟩
  · obtain ⟨e1, e2⟩ := un_yes hf
    rw [e1, e2]
    exact ⟨v', rfl, hr, hb⟩
  · obtain ⟨e1, e2⟩ := un_no hf
    rw [e1, e2]
    exact ⟨_, rfl, World.ownsRow_nil _ _ _ _, hb⟩

/-- Where the rounds stand: the book keeps n lists of each kind at most; its blocks are made since base, below up. -/
def Bk (base : Nat) (w0 w : World) (p n up : Nat) : Prop := ∃ hv hc L dv dc M, BookAt w p hv hc L dv dc M ∧ (L.length ≤ n ∧ M.length ≤ n) ∧ ((∀ x ∈ L, x.xs.length ≤ 900000) ∧ ∀ x ∈ M, x.xs.length ≤ 900000) ∧ (∀ g ∈ bookFoot p hv hc L dv dc M, base ≤ g ∧ g < up) ∧ Below base w0 w ∧ base ≤ w.heap.size
section
variable {base : Nat} {w0 w w' : World} {p n up : Nat}
theorem Bk.on (h : Bk base w0 w p n up) (hb : Below w.heap.size w w') : Bk base w0 w' p n up := by
  obtain ⟨hv, hc, L, dv, dc, M, h1, h2, h3, h4, h5, h6⟩ := h
  exact ⟨hv, hc, L, dv, dc, M, h1.below hb, h2, h3, h4, h5.trans (hb.mono h6), Nat.le_trans h6 hb.size⟩
theorem Bk.now (h : Bk base w0 w p n up) : Bk base w0 w p n w.heap.size := by
  obtain ⟨hv, hc, L, dv, dc, M, h1, h2, h3, h4, h5, h6⟩ := h
  exact ⟨hv, hc, L, dv, dc, M, h1, h2, h3, fun g hg => ⟨(h4 g hg).1, h1.lt g hg⟩, h5, h6⟩
theorem Bk.below (h : Bk base w0 w p n up) : Below base w0 w ∧ base ≤ w.heap.size := by
  obtain ⟨hv, hc, L, dv, dc, M, h1, h2, h3, h4, h5, h6⟩ := h
  exact ⟨h5, h6⟩
theorem Bk.new (hb : Below base w0 w) (h : base ≤ w.heap.size) : Bk base w0 (w.alloc (.cells (bookCells nilV nilV nilV nilV) 39)) w.heap.size 0 (w.heap.size + 1) := by
  have hf : bookFoot w.heap.size nilV nilV [] nilV nilV [] = [w.heap.size] := rfl
  refine ⟨nilV, nilV, [], nilV, nilV, [], BookAt.new w, by simp, by simp, fun g hg => ?_, hb.alloc h _, by simp; omega⟩
  rw [hf] at hg
  simp at hg
  omega
theorem rowT {hv hc dv dc : Value} {L : List BT.KeptI} {M : List KeptI} (h : BookAt w p hv hc L dv dc M) {e : BT.KeptI} (he : e ∈ L) : w.ownsRow 0 9 1 e.v e.xs.length (e.xs.map Value.string) := h.ints.all e.rv (by
  unfold BT.shelfI
  exact List.mem_cons_of_mem _ (List.mem_cons_of_mem _ (List.mem_append.2 (.inl (List.mem_map.2 ⟨e, he, rfl⟩)))))
/-- Both are kept: what stands behind it. -/
theorem Bk.of {w1 w2 : World} {hv hc dv dc hv' hc' dv' dc' cx cu x u : Value} {L : List BT.KeptI} {M : List KeptI} {X : List ByteArray} {U : List Int} {a b c d : Nat}
    (h1 : BookAt w p hv hc L dv dc M) (hn : L.length ≤ n ∧ M.length ≤ n) (hx : (∀ x ∈ L, x.xs.length ≤ 900000) ∧ ∀ x ∈ M, x.xs.length ≤ 900000) (hf : ∀ g ∈ bookFoot p hv hc L dv dc M, base ≤ g ∧ g < up) (h0 : Below base w0 w) (hbs : base ≤ w.heap.size) (hup : up ≤ w.heap.size)
    (hX : X.length ≤ 900000) (hU : U.length ≤ 900000) (hxb : ∀ g, x.ownBlock = some g → a ≤ g ∧ g < b) (hub : ∀ g, u.ownBlock = some g → c ≤ g ∧ g < d) (hua : up ≤ a) (huc : up ≤ c) (hbw : b ≤ w.heap.size)
    (k1 : Kept (bookFoot p hv hc L dv dc M) w w1) (f1 : ∀ g ∈ bookFoot p hv' hc' (L ++ [⟨x, cx, X⟩]) dv dc M, g ∈ bookFoot p hv hc L dv dc M ∨ x.ownBlock = some g ∨ w.heap.size ≤ g)
    (h2 : BookAt w2 p hv' hc' (L ++ [⟨x, cx, X⟩]) dv' dc' (M ++ [⟨u, cu, U⟩])) (k2 : Kept (bookFoot p hv' hc' (L ++ [⟨x, cx, X⟩]) dv dc M) w1 w2) (f2 : ∀ g ∈ bookFoot p hv' hc' (L ++ [⟨x, cx, X⟩]) dv' dc' (M ++ [⟨u, cu, U⟩]), g ∈ bookFoot p hv' hc' (L ++ [⟨x, cx, X⟩]) dv dc M ∨ u.ownBlock = some g ∨ w1.heap.size ≤ g) (hbu : base ≤ up) :
    Bk base w0 w2 p (n + 1) w2.heap.size ∧ w2.ownsRow 0 9 1 x X.length (X.map Value.string) ∧ Below base w w2 := by
  have hs1 := k1.size
  have hs2 := k2.size
  have g1 : ∀ g ∈ bookFoot p hv' hc' (L ++ [⟨x, cx, X⟩]) dv dc M, base ≤ g := fun g hg => by
    rcases f1 g hg with h | h | h
    · exact (hf g h).1
    · have := hxb g h; omega
    · omega
  have hw : Below base w w2 := (k1.below hbs (fun g hg => (hf g hg).1)).trans (k2.below (by omega) g1)
  refine ⟨⟨hv', hc', _, dv', dc', _, h2, by simp; omega, ⟨fun e he => ?_, fun e he => ?_⟩, fun g hg => ⟨?_, h2.lt g hg⟩, h0.trans hw, by omega⟩, rowT h2 (e := ⟨x, cx, X⟩) (by simp), hw⟩
  · rcases List.mem_append.1 he with he | he
    · exact hx.1 e he
    · simp at he; subst he; exact hX
  · rcases List.mem_append.1 he with he | he
    · exact hx.2 e he
    · simp at he; subst he; exact hU
  · rcases f2 g hg with h | h | h
    · exact g1 g h
    · have := hub g h; omega
    · omega
end
end Go.Proofs.YtlalhinodmmgfaaGreat.BQ
