/-
  BranchTells: what a round hands out, what of it is kept, what of it stays.
-/
import Derived.Test.YtpfifmjcmpankaaGreatMg35
import Derived.Test.YtpfifmjcmpankaaGreatMg39
import Derived.Test.YtpfifmjcmpankaaGreatMg42
import Derived.Test.YtpfifmjcmpankaaGreatMg43
namespace Go.Proofs.YtpfifmjcmpankaaGreat.BR.BC
open Go.RowKit Go.Lib

theorem item_most {x : Chd} (h : x.fair) : (itemB x).length ≤ x.key.size + 20 := by
  have h1 := uvarint_length64 (zigzag_lt (x := (x.key.size : Int)) (by omega) (by have := h.1; omega))
  have h2 := uvarint_length64 (zigzag_lt h.2.1 h.2.2)
  have h3 : x.key.data.toList.length = x.key.size := by simp
  unfold itemB textB
  rw [List.length_append, List.length_append]
  omega
theorem sz_most {l : List Chd} (h : ∀ x ∈ l, x.fair) : sz l ≤ sizesI l + 20 * l.length := by
  induction l with
  | nil => simp [sz, leafB, sizesI]
  | cons a r ih =>
    have h1 := item_most (h a (by simp))
    have h2 := ih (fun y hy => h y (List.mem_cons_of_mem _ hy))
    rw [sz_cons]
    simp only [sizesI, List.map_cons, List.sum_cons, List.length_cons] at *
    omega

/-- The children of which s are the bytes, and the answer. -/
noncomputable def getL (s : List UInt8) : List Chd := @dite _ (∃ l, IsLeaf s l) (Classical.propDecidable _) (fun h => Classical.choose h) (fun _ => [])
noncomputable def getE (s : List UInt8) : Int := @ite _ (∃ l, IsLeaf s l) (Classical.propDecidable _) 0 4
theorem getL_is {s : List UInt8} {l : List Chd} (h : IsLeaf s l) : getL s = l ∧ getE s = 0 := by
  have he : ∃ l, IsLeaf s l := ⟨l, h⟩
  refine ⟨?_, by unfold getE; rw [if_pos he]⟩
  unfold getL
  rw [dif_pos he]
  have h2 := Classical.choose_spec he
  exact leafB_inj h2.1.2.1 h.1.2.1 (h2.2.2.trans h.2.2.symm)
theorem getL_no {s : List UInt8} (h : ∀ l, ¬ IsLeaf s l) : getL s = [] ∧ getE s = 4 := by
  have he : ¬ ∃ l, IsLeaf s l := fun ⟨l, hl⟩ => h l hl
  exact ⟨by unfold getL; rw [dif_neg he], by unfold getE; rw [if_neg he]⟩
theorem getTo_is {w w' : World} {s : List UInt8} {e : Ending} (h : GetTo8 w s e w') : ∃ v, e = .returned (.tuple #[v, .int .i64 (getE s)]) ∧ OwnC w.heap.size w' v (getL s) ∧ Below w.heap.size w w' := by
  obtain ⟨v, ⟨l, rfl, h1, h2, h3⟩ | ⟨rfl, rfl, h1, h3⟩⟩ := h
  · obtain ⟨e1, e2⟩ := getL_is h1
    rw [e1, e2]
    exact ⟨v, rfl, h2, h3⟩
  · obtain ⟨e1, e2⟩ := getL_no h1
    rw [e1, e2]
    exact ⟨_, rfl, World.ownsRow_nil _ _ _ _, h3⟩
theorem len_sz (l : List Chd) : 2 * l.length ≤ sz l := by
  induction l with
  | nil => simp
  | cons a r ih => have := item_two a; rw [sz_cons, List.length_cons]; omega
theorem getL_len (s : List UInt8) : (getL s).length ≤ 240 := by
  by_cases he : ∃ l, IsLeaf s l
  · obtain ⟨l, hl⟩ := he
    rw [(getL_is hl).1]
    have := len_sz l
    have := hl.2.1
    omega
  · rw [(getL_no fun l hl => he ⟨l, hl⟩).1]
    simp

/-- Where the rounds stand: the book keeps four lists of each. -/
def Bk (base : Nat) (w0 w : World) (p k : Nat) : Prop := ∃ hv hc L, BookAt w p hv hc L ∧ L.length = 4 * k ∧ (∀ x ∈ L, x.xs.length ≤ 900000) ∧ (∀ g ∈ bookFoot p hv hc L, base ≤ g) ∧ Below base w0 w ∧ base ≤ w.heap.size
theorem Bk.on {base : Nat} {w0 w w' : World} {p k : Nat} (h : Bk base w0 w p k) (hb : Below w.heap.size w w') : Bk base w0 w' p k := by
  obtain ⟨hv, hc, L, h1, h2, h3, h4, h5, h6⟩ := h
  exact ⟨hv, hc, L, h1.below hb, h2, h3, h4, h5.trans (hb.mono h6), Nat.le_trans h6 hb.size⟩
theorem Bk.new {base : Nat} {w0 w : World} (hb : Below base w0 w) (h : base ≤ w.heap.size) : Bk base w0 (w.alloc (.cells (bookCells nilV nilV) 40)) w.heap.size 0 := by
  have hf : bookFoot w.heap.size nilV nilV [] = [w.heap.size] := rfl
  refine ⟨nilV, nilV, [], BookAt.new w, rfl, by simp, fun g hg => ?_, hb.alloc h _, by simp; omega⟩
  rw [hf] at hg
  simp at hg
  omega

/-- What a round's calls hand out. -/
structure Got (wr A1 A2 A4 A5 A6 A7 A8 A9 : World) (l x U R Y Z : List Chd) (m n u v r y z p q : Value) : Prop where
  hm : LentC wr.heap.size A1 l m
  b1 : Below wr.heap.size wr A1
  hn : LentC A1.heap.size A2 x n
  b2 : Below A1.heap.size A1 A2
  b4 : Below A2.heap.size A2 A4
  hu : OwnC A4.heap.size A5 u U
  b5 : Below A4.heap.size A4 A5
  hv : OwnC A5.heap.size A6 v U
  b6 : Below A5.heap.size A5 A6
  hr : OwnC A6.heap.size A7 r R
  b7 : Below A6.heap.size A6 A7
  hy : OwnC A7.heap.size A8 y Y
  hz : OwnC A7.heap.size A8 z Z
  yz : ∀ g, y.ownBlock = some g → z.ownBlock ≠ some g
  b8 : Below A7.heap.size A7 A8
  hp : OwnC A8.heap.size A9 p Y
  hq : OwnC A8.heap.size A9 q Z
  b9 : Below A8.heap.size A8 A9
theorem _root_.Go.Proofs.YtpfifmjcmpankaaGreat.BR.OwnC.lt {base : Nat} {w : World} {v : Value} {l : List Chd} (h : OwnC base w v l) : ∀ g, v.ownBlock = some g → base ≤ g ∧ g < w.heap.size := World.ownsRow.lt h
theorem _root_.Go.Proofs.YtpfifmjcmpankaaGreat.BR.OwnC.low {base base' : Nat} {w : World} {v : Value} {l : List Chd} (h : OwnC base w v l) (hb : base' ≤ base) : OwnC base' w v l := row_lower h hb
theorem _root_.Go.Proofs.YtpfifmjcmpankaaGreat.BR.OwnC.kept {base : Nat} {w w' : World} {F : List Nat} {v : Value} {l : List Chd} (h : OwnC base w v l) (k : Kept F w w') (hF : ∀ g ∈ F, g < base ∨ w.heap.size ≤ g) : OwnC base w' v l :=
  row_kept h k fun g hg hin => by
    have h1 := World.ownsRow.lt h g hg
    rcases hF g hin with h2 | h2 <;> omega
theorem LentC.low {base base' : Nat} {w : World} {l : List Chd} {v : Value} (h : LentC base w l v) (hb : base' ≤ base) : LentC base' w l v := by
  obtain ⟨A, c, rfl, h⟩ := h
  exact ⟨A, c, rfl, row_lower h hb⟩
/-- What is left of it when four lists are kept. -/
structure Out (base : Nat) (w0 w : World) (l x U R Y Z : List Chd) (m n u v r y z p q : Value) (pb k : Nat) : Prop where
  hm : LentC 0 w l m
  hn : LentC 0 w x n
  hu : OwnC 0 w u U
  hv : OwnC 0 w v U
  hr : OwnC 0 w r R
  hy : OwnC 0 w y Y
  hz : OwnC 0 w z Z
  hp : OwnC 0 w p Y
  hq : OwnC 0 w q Z
  bk : Bk base w0 w pb k
section
variable {base : Nat} {w0 w w' : World} {wr A1 A2 A4 A5 A6 A7 A8 A9 : World} {l x U R Y Z : List Chd} {m n u v r y z p q : Value} {pb k : Nat} {hv hc : Value} {L : List KeptI}
theorem Out.on (h : Out base w0 w l x U R Y Z m n u v r y z p q pb k) (hb : Below w.heap.size w w') : Out base w0 w' l x U R Y Z m n u v r y z p q pb k :=
  ⟨h.hm.on hb, h.hn.on hb, h.hu.on hb, h.hv.on hb, h.hr.on hb, h.hy.on hb, h.hz.on hb, h.hp.on hb, h.hq.on hb, h.bk.on hb⟩
theorem Out.below (h : Out base w0 w l x U R Y Z m n u v r y z p q pb k) : Below base w0 w ∧ base ≤ w.heap.size := by
  obtain ⟨hv, hc, L, h1, h2, h3, h4, h5, h6⟩ := h.bk
  exact ⟨h5, h6⟩
theorem Got.sizes (h : Got wr A1 A2 A4 A5 A6 A7 A8 A9 l x U R Y Z m n u v r y z p q) : wr.heap.size ≤ A1.heap.size ∧ A1.heap.size ≤ A2.heap.size ∧ A2.heap.size ≤ A4.heap.size ∧ A4.heap.size ≤ A5.heap.size ∧ A5.heap.size ≤ A6.heap.size ∧ A6.heap.size ≤ A7.heap.size ∧ A7.heap.size ≤ A8.heap.size ∧ A8.heap.size ≤ A9.heap.size :=
  ⟨h.b1.size, h.b2.size, h.b4.size, h.b5.size, h.b6.size, h.b7.size, h.b8.size, h.b9.size⟩
theorem Got.below (h : Got wr A1 A2 A4 A5 A6 A7 A8 A9 l x U R Y Z m n u v r y z p q) :
    Below A8.heap.size A8 A9 ∧ Below A7.heap.size A7 A9 ∧ Below A6.heap.size A6 A9 ∧ Below A5.heap.size A5 A9 ∧ Below A4.heap.size A4 A9 ∧ Below A2.heap.size A2 A9 ∧ Below A1.heap.size A1 A9 ∧ Below wr.heap.size wr A9 := by
  have c8 := h.b9
  have c7 := h.b8.trans (c8.mono h.b8.size)
  have c6 := h.b7.trans (c7.mono h.b7.size)
  have c5 := h.b6.trans (c6.mono h.b6.size)
  have c4 := h.b5.trans (c5.mono h.b5.size)
  have c2 := h.b4.trans (c4.mono h.b4.size)
  have c1 := h.b2.trans (c2.mono h.b2.size)
  exact ⟨c8, c7, c6, c5, c4, c2, c1, h.b1.trans (c1.mono h.b1.size)⟩
abbrev rows4 (u r y z : Value) (U R Y Z : List Chd) : List (Value × List Chd) := [(u, U), (r, R), (y, Y), (z, Z)]
theorem Got.pend (h : Got wr A1 A2 A4 A5 A6 A7 A8 A9 l x U R Y Z m n u v r y z p q) (hB : BookAt wr pb hv hc L) : Pend (pendFoot pb hv hc L (rows4 u r y z U R Y Z)) A9 A9 pb hv hc L (rows4 u r y z U R Y Z) := by
  obtain ⟨s1, s2, s4, s5, s6, s7, s8, s9⟩ := h.sizes
  obtain ⟨c8, c7, c6, c5, c4, c2, c1, c0⟩ := h.below
  have hu := h.hu.lt
  have hr := h.hr.lt
  have hy := h.hy.lt
  have hz := h.hz.lt
  refine Pend.start (hB.below c0) (fun q hq => ?_) (fun q hq g hg hin => ?_) ?_
  · simp only [List.mem_cons, List.not_mem_nil, or_false] at hq
    rcases hq with rfl | rfl | rfl | rfl
    · exact (h.hu.on c5).low (Nat.zero_le _)
    · exact (h.hr.on c7).low (Nat.zero_le _)
    · exact (h.hy.on c8).low (Nat.zero_le _)
    · exact (h.hz.on c8).low (Nat.zero_le _)
  · have hlt := hB.lt g hin
    simp only [List.mem_cons, List.not_mem_nil, or_false] at hq
    rcases hq with rfl | rfl | rfl | rfl
    · have := hu g hg; omega
    · have := hr g hg; omega
    · have := hy g hg; omega
    · have := hz g hg; omega
  · refine List.pairwise_cons.2 ⟨fun a ha g hg hg' => ?_, List.pairwise_cons.2 ⟨fun a ha g hg hg' => ?_, List.pairwise_cons.2 ⟨fun a ha g hg => ?_, List.pairwise_cons.2 ⟨fun a ha => by simp at ha, List.Pairwise.nil⟩⟩⟩⟩
    · have := hu g hg
      simp only [List.mem_cons, List.not_mem_nil, or_false] at ha
      rcases ha with rfl | rfl | rfl
      · have := hr g hg'; omega
      · have := hy g hg'; omega
      · have := hz g hg'; omega
    · have := hr g hg
      simp only [List.mem_cons, List.not_mem_nil, or_false] at ha
      rcases ha with rfl | rfl
      · have := hy g hg'; omega
      · have := hz g hg'; omega
    · simp only [List.mem_cons, List.not_mem_nil, or_false] at ha
      subst ha
      exact h.yz g hg
theorem Got.foot (h : Got wr A1 A2 A4 A5 A6 A7 A8 A9 l x U R Y Z m n u v r y z p q) (hB : BookAt wr pb hv hc L) : ∀ g ∈ pendFoot pb hv hc L (rows4 u r y z U R Y Z), (g ∈ bookFoot pb hv hc L ∧ g < wr.heap.size) ∨ (A4.heap.size ≤ g ∧ g < A5.heap.size) ∨ (A6.heap.size ≤ g ∧ g < A8.heap.size) := by
  obtain ⟨s1, s2, s4, s5, s6, s7, s8, s9⟩ := h.sizes
  intro g hg
  unfold pendFoot at hg
  rcases List.mem_append.1 hg with hg | hg
  · exact .inl ⟨hg, hB.lt g hg⟩
  · obtain ⟨q, hq, hg⟩ := List.mem_flatMap.1 hg
    have hg : q.1.ownBlock = some g := by simpa using hg
    simp only [List.mem_cons, List.not_mem_nil, or_false] at hq
    rcases hq with rfl | rfl | rfl | rfl
    · exact .inr (.inl (h.hu.lt g hg))
    · have := h.hr.lt g hg; exact .inr (.inr (by omega))
    · have := h.hy.lt g hg; exact .inr (.inr (by omega))
    · have := h.hz.lt g hg; exact .inr (.inr (by omega))
theorem Got.out {wK : World} {hv' hc' cu cr cy cz : Value} (h : Got wr A1 A2 A4 A5 A6 A7 A8 A9 l x U R Y Z m n u v r y z p q) (hB : BookAt wr pb hv hc L) (hlen : L.length = 4 * k) (hxs : ∀ x ∈ L, x.xs.length ≤ 900000) (hfoot : ∀ g ∈ bookFoot pb hv hc L, base ≤ g) (hw0 : Below base w0 wr) (hbase : base ≤ wr.heap.size)
    (hU : U.length ≤ 900000) (hR : R.length ≤ 900000) (hY : Y.length ≤ 900000) (hZ : Z.length ≤ 900000)
    (hP : Pend (pendFoot pb hv hc L (rows4 u r y z U R Y Z)) A9 wK pb hv' hc' (L ++ [⟨u, cu, U⟩] ++ [⟨r, cr, R⟩] ++ [⟨y, cy, Y⟩] ++ [⟨z, cz, Z⟩]) []) : Out base w0 wK l x U R Y Z m n u v r y z p q pb (k + 1) := by
  obtain ⟨s1, s2, s4, s5, s6, s7, s8, s9⟩ := h.sizes
  obtain ⟨c8, c7, c6, c5, c4, c2, c1, c0⟩ := h.below
  have hF := h.foot hB
  have hK := hP.kept
  have hin : ∀ e : KeptI, e ∈ L ++ [⟨u, cu, U⟩] ++ [⟨r, cr, R⟩] ++ [⟨y, cy, Y⟩] ++ [⟨z, cz, Z⟩] → OwnC 0 wK e.v e.xs := fun e he => hP.book.rows.all e.rv (by
    unfold shelfI
    exact List.mem_cons_of_mem _ (List.mem_cons_of_mem _ (List.mem_append.2 (.inl (List.mem_map.2 ⟨e, he, rfl⟩)))))
  have hbK : Below base w0 wK := hw0.trans ((c0.mono hbase).trans (hK.below (by omega) (fun g hg => by
    rcases hF g hg with h1 | h1 | h1
    · exact hfoot g h1.1
    · omega
    · omega)))
  have d1 := (Kept.of_below c1 (F := pendFoot pb hv hc L (rows4 u r y z U R Y Z))).trans hK
  have d2 := (Kept.of_below c2 (F := pendFoot pb hv hc L (rows4 u r y z U R Y Z))).trans hK
  have d6 := (Kept.of_below c6 (F := pendFoot pb hv hc L (rows4 u r y z U R Y Z))).trans hK
  have hL : ∀ (a b c d : KeptI), (L ++ [a] ++ [b] ++ [c] ++ [d]).length = 4 * (k + 1) := fun a b c d => by simp; omega
  refine ⟨?_, ?_, ?_, ?_, ?_, ?_, ?_, ?_, ?_, _, _, _, hP.book, hL _ _ _ _, fun e he => ?_, fun g hg => ?_, hbK, ?_⟩
  · exact (h.hm.kept d1 (fun g hg => by rcases hF g hg with h1 | h1 | h1 <;> omega)).low (Nat.zero_le _)
  · exact (h.hn.kept d2 (fun g hg => by rcases hF g hg with h1 | h1 | h1 <;> omega)).low (Nat.zero_le _)
  · exact hin ⟨u, cu, U⟩ (by simp)
  · exact (h.hv.kept d6 (fun g hg => by rcases hF g hg with h1 | h1 | h1 <;> omega)).low (Nat.zero_le _)
  · exact hin ⟨r, cr, R⟩ (by simp)
  · exact hin ⟨y, cy, Y⟩ (by simp)
  · exact hin ⟨z, cz, Z⟩ (by simp)
  · exact (h.hp.kept hK (fun g hg => by rcases hF g hg with h1 | h1 | h1 <;> omega)).low (Nat.zero_le _)
  · exact (h.hq.kept hK (fun g hg => by rcases hF g hg with h1 | h1 | h1 <;> omega)).low (Nat.zero_le _)
  · simp only [List.mem_append, List.mem_singleton] at he
    rcases he with (((he | rfl) | rfl) | rfl) | rfl
    · exact hxs e he
    · exact hU
    · exact hR
    · exact hY
    · exact hZ
  · rcases hP.sub g hg with h1 | h1
    · rcases hF g h1 with h2 | h2 | h2
      · exact hfoot g h2.1
      · omega
      · omega
    · omega
  · exact Nat.le_trans hbase (Nat.le_trans c0.size hK.size)
end
end Go.Proofs.YtpfifmjcmpankaaGreat.BR.BC
