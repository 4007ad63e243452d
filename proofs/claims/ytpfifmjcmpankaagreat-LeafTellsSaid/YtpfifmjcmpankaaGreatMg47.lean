/-
  LeafTells: what a round hands out, what of it is kept, what of it stays.
-/
import Derived.Test.YtpfifmjcmpankaaGreatMg36
import Derived.Test.YtpfifmjcmpankaaGreatMg41
import Derived.Test.YtpfifmjcmpankaaGreatMg45
import Derived.Test.YtpfifmjcmpankaaGreatMg46
namespace Go.Proofs.YtpfifmjcmpankaaGreat.BI
open Go.RowKit Go.Lib

theorem item_most {x : Itm} (h : x.fair) : (itemB x).length ≤ x.key.size + x.val.size + 60 := by
  have h1 := uvarint_length64 (zigzag_lt (x := (x.key.size : Int)) (by omega) (by have := h.1; omega))
  have h2 := uvarint_length64 (zigzag_lt (x := (x.val.size : Int)) (by omega) (by have := h.2.1; omega))
  have h3 := uvarint_length64 (zigzag_lt h.2.2.1.1 h.2.2.1.2)
  have h4 := uvarint_length64 (zigzag_lt h.2.2.2.1 h.2.2.2.2)
  have h5 : x.key.data.toList.length = x.key.size := by simp
  have h6 : x.val.data.toList.length = x.val.size := by simp
  unfold itemB textB varsB
  simp only [List.length_append, List.length_cons]
  split
  · simp only [List.length_append]; omega
  · simp only [List.flatMap_cons, List.flatMap_nil, List.length_append, List.length_nil]; omega
theorem sz_most {l : List Itm} (h : ∀ x ∈ l, x.fair) : sz l ≤ sizesI l + 60 * l.length := by
  induction l with
  | nil => simp [sz, leafB, sizesI]
  | cons a r ih =>
    have h1 := item_most (h a (by simp))
    have h2 := ih (fun y hy => h y (List.mem_cons_of_mem _ hy))
    rw [sz_cons]
    simp only [sizesI, List.map_cons, List.sum_cons, List.length_cons] at *
    omega
theorem itSizes_mem {l : List Itm} {x : Itm} (h : x ∈ l) : x.key.size + x.val.size ≤ sizesI l := by
  induction l with
  | nil => simp at h
  | cons a r ih =>
    simp only [sizesI, List.map_cons, List.sum_cons] at *
    rcases List.mem_cons.1 h with rfl | h
    · omega
    · have := ih h
      omega

/-- The items of which s are the bytes, and the answer. -/
noncomputable def getL (s : List UInt8) : List Itm := @dite _ (∃ l, IsLeaf s l) (Classical.propDecidable _) (fun h => Classical.choose h) (fun _ => [])
noncomputable def getE (s : List UInt8) : Int := @ite _ (∃ l, IsLeaf s l) (Classical.propDecidable _) 0 4
theorem getL_is {s : List UInt8} {l : List Itm} (h : IsLeaf s l) : getL s = l ∧ getE s = 0 := by
  have he : ∃ l, IsLeaf s l := ⟨l, h⟩
  refine ⟨?_, by unfold getE; rw [if_pos he]⟩
  unfold getL
  rw [dif_pos he]
  have h2 := Classical.choose_spec he
  exact leafB_inj h2.1.1 h.1.1 (h2.2.2.trans h.2.2.symm)
theorem getL_no {s : List UInt8} (h : ∀ l, ¬ IsLeaf s l) : getL s = [] ∧ getE s = 4 := by
  have he : ¬ ∃ l, IsLeaf s l := fun ⟨l, hl⟩ => h l hl
  exact ⟨by unfold getL; rw [dif_neg he], by unfold getE; rw [if_neg he]⟩
theorem getTo_is {w w' : World} {s : List UInt8} {e : Ending} (h : GetTo8 w s e w') : ∃ v, e = .returned (.tuple #[v, .int .i64 (getE s)]) ∧ OwnI w.heap.size w' v (getL s) ∧ Below w.heap.size w w' := by
  obtain ⟨v, ⟨l, rfl, h1, h2, h3⟩ | ⟨rfl, rfl, h1, h3⟩⟩ := h
  · obtain ⟨e1, e2⟩ := getL_is h1
    rw [e1, e2]
    exact ⟨v, rfl, h2, h3⟩
  · obtain ⟨e1, e2⟩ := getL_no h1
    rw [e1, e2]
    exact ⟨_, rfl, World.ownsRow_nil _ _ _ _, h3⟩
theorem len_sz {l : List Itm} (h : ∀ x ∈ l, rightB x = true) : 2 * l.length ≤ sz l := by
  induction l with
  | nil => simp
  | cons a r ih =>
    have h1 := (right_len (h a (by simp))).2
    have h2 := ih (fun y hy => h y (List.mem_cons_of_mem _ hy))
    rw [sz_cons, List.length_cons]
    omega
theorem getL_len (s : List UInt8) : (getL s).length ≤ 240 := by
  by_cases he : ∃ l, IsLeaf s l
  · obtain ⟨l, hl⟩ := he
    rw [(getL_is hl).1]
    have := len_sz hl.1.1
    have := hl.2.1
    omega
  · rw [(getL_no fun l hl => he ⟨l, hl⟩).1]
    simp

/-- Where the rounds stand: the book keeps n lists at most; none of its blocks lies from lo up to hi. -/
def Bk (base : Nat) (w0 w : World) (p n lo hi : Nat) : Prop := ∃ hv hc L, BookAt w p hv hc L ∧ L.length ≤ n ∧ (∀ x ∈ L, x.xs.length ≤ 900000) ∧ (∀ g ∈ bookFoot p hv hc L, base ≤ g ∧ (g < lo ∨ hi ≤ g)) ∧ Below base w0 w ∧ base ≤ w.heap.size
section
variable {base : Nat} {w0 w w' : World} {p n lo hi : Nat}
theorem Bk.on (h : Bk base w0 w p n lo hi) (hb : Below w.heap.size w w') : Bk base w0 w' p n lo hi := by
  obtain ⟨hv, hc, L, h1, h2, h3, h4, h5, h6⟩ := h
  exact ⟨hv, hc, L, h1.below hb, h2, h3, h4, h5.trans (hb.mono h6), Nat.le_trans h6 hb.size⟩
/-- What comes next lies above it. -/
theorem Bk.gap (h : Bk base w0 w p n lo hi) (hi' : Nat) : Bk base w0 w p n w.heap.size hi' := by
  obtain ⟨hv, hc, L, h1, h2, h3, h4, h5, h6⟩ := h
  exact ⟨hv, hc, L, h1, h2, h3, fun g hg => ⟨(h4 g hg).1, .inl (h1.lt g hg)⟩, h5, h6⟩
theorem Bk.open_ (h : Bk base w0 w p n lo hi) : Bk base w0 w p n 0 0 := by
  obtain ⟨hv, hc, L, h1, h2, h3, h4, h5, h6⟩ := h
  exact ⟨hv, hc, L, h1, h2, h3, fun g hg => ⟨(h4 g hg).1, .inr (Nat.zero_le _)⟩, h5, h6⟩
theorem Bk.more (h : Bk base w0 w p n lo hi) {n' : Nat} (hn : n ≤ n') : Bk base w0 w p n' lo hi := by
  obtain ⟨hv, hc, L, h1, h2, h3⟩ := h
  exact ⟨hv, hc, L, h1, Nat.le_trans h2 hn, h3⟩
theorem Bk.below (h : Bk base w0 w p n lo hi) : Below base w0 w ∧ base ≤ w.heap.size := by
  obtain ⟨hv, hc, L, h1, h2, h3, h4, h5, h6⟩ := h
  exact ⟨h5, h6⟩
theorem Bk.new (hb : Below base w0 w) (h : base ≤ w.heap.size) : Bk base w0 (w.alloc (.cells (bookCells nilV nilV) 40)) w.heap.size 0 0 0 := by
  have hf : bookFoot w.heap.size nilV nilV [] = [w.heap.size] := rfl
  refine ⟨nilV, nilV, [], BookAt.new w, by simp, by simp, fun g hg => ?_, hb.alloc h _, by simp; omega⟩
  rw [hf] at hg
  simp at hg
  omega
/-- Rows that have come since wait to be kept. -/
theorem Bk.pend {R : List (Value × List Itm)} {W : World} {up : Nat} (h : Bk base w0 w p n lo hi) (hb : Below w.heap.size w W) (hup : w.heap.size ≤ up) (hhi : hi ≤ w.heap.size) (hR : ∀ q ∈ R, InI w.heap.size up W q.1 q.2)
    (hap : R.Pairwise fun a b => ∀ g, a.1.ownBlock = some g → b.1.ownBlock ≠ some g) :
    ∃ hv hc L F, Pend F W W p hv hc L R ∧ L.length ≤ n ∧ (∀ x ∈ L, x.xs.length ≤ 900000) ∧ (∀ g ∈ F, base ≤ g ∧ (g < lo ∨ hi ≤ g) ∧ g < up) := by
  obtain ⟨hv, hc, L, h1, h2, h3, h4, h5, h6⟩ := h
  refine ⟨hv, hc, L, pendFoot p hv hc L R, Pend.start (h1.below hb) (fun q hq => (hR q hq).1) (fun q hq g hg hin => ?_) hap, h2, h3, fun g hg => ?_⟩
  · have := (hR q hq).2 g hg
    have := h1.lt g hin
    omega
  · unfold pendFoot at hg
    rcases List.mem_append.1 hg with hg | hg
    · have := h4 g hg
      have := h1.lt g hg
      exact ⟨by omega, by omega, by omega⟩
    · obtain ⟨q, hq, hg⟩ := List.mem_flatMap.1 hg
      have hg : q.1.ownBlock = some g := by simpa using hg
      have := (hR q hq).2 g hg
      exact ⟨by omega, .inr (by omega), by omega⟩
/-- They are kept. -/
theorem Bk.of {F : List Nat} {W wK : World} {hv hc : Value} {L : List KeptI} (hP : Pend F W wK p hv hc L []) (hL : L.length ≤ n) (hx : ∀ x ∈ L, x.xs.length ≤ 900000) (hF : ∀ g ∈ F, base ≤ g ∧ (g < lo ∨ hi ≤ g)) (hb : Below base w0 W) (hbs : base ≤ W.heap.size) (hhi : hi ≤ W.heap.size) : Bk base w0 wK p n lo hi := by
  refine ⟨hv, hc, L, hP.book, hL, hx, fun g hg => ?_, hb.trans (hP.kept.below hbs (fun g hg => (hF g hg).1)), Nat.le_trans hbs hP.kept.size⟩
  rcases hP.sub g hg with h1 | h1
  · exact hF g h1
  · exact ⟨by omega, .inr (by omega)⟩
theorem pend_row {F : List Nat} {W wK : World} {hv hc : Value} {L : List KeptI} {R : List (Value × List Itm)} (hP : Pend F W wK p hv hc L R) {e : KeptI} (he : e ∈ L) : OwnI 0 wK e.v e.xs := hP.book.rows.all e.rv (by
  unfold shelfI
  exact List.mem_cons_of_mem _ (List.mem_cons_of_mem _ (List.mem_append.2 (.inl (List.mem_map.2 ⟨e, he, rfl⟩)))))
end
end Go.Proofs.YtpfifmjcmpankaaGreat.BI
