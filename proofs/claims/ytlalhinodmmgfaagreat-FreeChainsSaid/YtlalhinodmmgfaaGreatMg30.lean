/-
  The statements' book, of lists of texts: marks, copies. The statements' book, of lists of texts: one more list is kept, with a copy. The statements' book, of lists of texts: is each as it was? each is marked. The statements' book, of lists of texts: all lists are marked. The statements' book, of lists of texts: all lists are grown. The statements' book, of lists of texts: all lists are grown (the walk). The statements' book, of lists of texts: is each marked? The statements' book, of lists of texts: a shelf as lists side by side; what is read behind growing.
-/
import Derived.Test.YtlalhinodmmgfaaGreatMg23
import Derived.Test.YtlalhinodmmgfaaGreatMg29
namespace Go.Proofs.YtlalhinodmmgfaaGreat
open Go.RowKit

def marksT (i a n : Nat) : List ByteArray := (List.range' a n).map (nameB i)
theorem length_marksT (i a n : Nat) : (marksT i a n).length = n := by simp [marksT]
theorem marksT_snoc (i a n : Nat) : marksT i a (n + 1) = marksT i a n ++ [nameB i (a + n)] := by
  unfold marksT
  rw [List.range'_concat]
  simp
theorem marksT_append (i a m n : Nat) : marksT i a m ++ marksT i (a + m) n = marksT i a (m + n) := by
  unfold marksT
  rw [← List.map_append, List.range'_append_1]

set_option maxRecDepth 100000 in
set_option maxHeartbeats 1000000 in
theorem markTexts_any (i a n : Nat) (w : World) (hi : i ≤ 1000) (ha : a ≤ 2000000) (hn : n ≤ 2000000) :
    Calls Tryz.prog 101 #[.int .i64 i, .int .i64 a, .int .i64 n] w fun e w' => ∃ v', e = .returned v' ∧ w'.ownsRow w.heap.size 9 1 v' n (cellsT (marksT i a n)) ∧ Below w.heap.size w w' := by
  obtain ⟨i0, hi0, hz0, hz1, hz2⟩ := info_parts Tryz.infoStr
  have HI := Lib.hid (And.intro hi0 (And.intro hz0 (And.intro hz1 hz2)))
  clear hi0 hz0 hz1 hz2
  have ha0 : (a : Int) ≤ 2000000 := by omega
  have hn0 : (n : Int) ≤ 2000000 := by omega
  have hi1 : (i : Int) ≤ 1000 := by omega
  have hi2 : (0 : Int) ≤ i := by omega
  go_enter Tryz.func101, Tryz.ntmps101
  go_wp2_with fail
  go_loopg [7, 8] n (fun g ov kv wr => ∃ (j z : Nat), kv = .int .i64 z ∧ z = a + j ∧ j + g = n ∧ wr.ownsRow w.heap.size 9 1 ov j (cellsT (marksT i a j)) ∧ Below w.heap.size w wr)
  case atStart => exact ⟨0, a, rfl, rfl, by omega, World.ownsRow_nil _ _ _ _, Below.refl _ _⟩
  case round =>
    obtain ⟨j, z, rfl, hz, hjg, hown, hb⟩ := hrel
    have hz1 : (z : Int) ≤ 4000000 := by omega
    have hz0 : (0 : Int) ≤ z := by omega
    by_cases hlt : j < n
    · have hlt1 : (z : Int) < (a : Int) + n := by omega
      obtain ⟨i0, hi0, hzz0, hzz1, hzz2⟩ := info_parts Tryz.infoStr
      have hnm := name_any i z wr (by omega) (by omega)
      have hgr := fun g hg => (hown.lt g hg).1
      have hsn := marksT_snoc i a j
      rw [← hz] at hsn
      have HB := Lib.hid (And.intro hb (And.intro hgr (And.intro hsn (And.intro hz hown))))
      have hbs := hb.size
      obtain ⟨nb, hnb⟩ : ∃ x, nameB i z = x := ⟨_, rfl⟩
      have HN := Lib.hid hnb
      rw [hnb] at hnm
      clear hown hb hgr hsn hz hnb
      go_wp2_with fail
      refine hnm.mono ?_
      rintro e w1 ⟨rfl, hb1⟩
      have hra := World.ownsRow.alloc (row_below HB.out.2.2.2.2 hb1) (.cells #[.string nb] 9)
      have hbs1 := Nat.le_trans hbs hb1.size
      have HB1 := Lib.hid hb1
      clear hnm hb1
      go_wp2_with (at_builtin; refine wpList_append_keeps rfl _ _ 23 9 i0 (.string ⟨#[]⟩) 1 16 Tryz.underlying23 hi0 hzz0 hzz1 hzz2 rfl (by decide) rfl _ u7 j _ rfl hra ⟨w1.heap.size, 0, none⟩ 1 1 rfl [.string nb] rfl (cell_one_new _ _ _) (by intro u hu; simp at hu; subst hu; rfl) (by omega) (by unfold maxLen; omega) (by omega) ?_; intro v' w' hown' hgn)
      go_roundg (n - (j + 1))
      case measure => omega
      case rel =>
        obtain ⟨hb, hgr, hsn, hz, _⟩ := HB.out
        have hal : Below wr.heap.size wr (w1.alloc (.cells #[.string nb] 9)) := HB1.out.alloc HB1.out.size _
        obtain ⟨hb2, hg2⟩ := hgn.below (base := w.heap.size) (Nat.le_trans hbs hal.size) hgr
        refine ⟨j + 1, z + 1, by go_num, by omega, by omega, ?_, (hb.trans (hal.mono hbs)).trans hb2⟩
        have h5 := row_raise hown' hg2
        rw [hsn, cellsT_append, HN.out]
        exact h5
    · obtain rfl : j = n := by omega
      have hge : decide ((z : Int) < (a : Int) + j) = false := by simp; omega
      have HB := Lib.hid (And.intro hown hb)
      clear hown hb hz
      go_wp2_with fail
      go_ret
      exact ⟨_, rfl, HB.out.1, HB.out.2⟩

theorem copyTexts_any {v : Value} {n : Nat} {l : List ByteArray} {w : World} (h : w.ownsRow 0 9 1 v n (cellsT l)) (hl : n ≤ 1000000) :
    Calls Tryz.prog 32 #[v] w fun e w' => ∃ v', e = .returned v' ∧ w'.ownsRow w.heap.size 9 1 v' n (cellsT l) ∧ Below w.heap.size w w' := by
  have hr := row_reads1 h
  have hn : (cellsT l).length = n := by simpa using h.1
  have hform : ∀ n c, v = .slice none n c → n = 0 ∧ c = 0 := by
    intro m c e
    rcases h.2 with ⟨h1, _⟩ | ⟨g, cap, cur, h1, _⟩
    · rw [h1] at e; cases e; exact ⟨rfl, rfl⟩
    · rw [h1] at e; cases e
  have h1 : ∀ u ∈ cellsT l, u.oneCell' = true := text_one
  obtain ⟨A, c, rfl⟩ := row_form h
  generalize cellsT l = vals at *
  clear h
  go_enter Tryz.func32, Tryz.ntmps32
  go_wp2_with (at_builtin; refine append_copy rfl _ _ 23 9 (.string ⟨#[]⟩) 16 Tryz.underlying23 Tryz.infoStr rfl (by decide) rfl w.heap.size w rfl w.heap.size (.slice A n c) rfl vals hr hform h1 (by omega) (Nat.le_refl _) ?_; intro v1 w1 hown hb1)
  go_ret
  rw [hn] at hown
  exact ⟨_, rfl, hown, hb1⟩
end Go.Proofs.YtlalhinodmmgfaaGreat

namespace Go.Proofs.YtlalhinodmmgfaaGreat.BT
open Go.RowKit

/-- A list that is kept: its slice, its copy's, what stood in it. -/
structure KeptI where
  v : Value
  c : Value
  xs : List ByteArray
def KeptI.rv (x : KeptI) : RowS := ⟨9, 1, x.v, x.xs.length, cellsT x.xs⟩
def KeptI.rc (x : KeptI) : RowS := ⟨9, 1, x.c, x.xs.length, cellsT x.xs⟩
/-- All rows of a shelf: the slice of the lists, that of the copies, the lists, the copies. -/
def shelfI (hv hc : Value) (L : List KeptI) : List RowS :=
  ⟨23, 1, hv, L.length, L.map KeptI.v⟩ :: ⟨23, 1, hc, L.length, L.map KeptI.c⟩ :: (L.map KeptI.rv ++ L.map KeptI.rc)

theorem shelfI_snoc (hv hc : Value) (L : List KeptI) (x : KeptI) :
    (⟨23, 1, hv, L.length + 1, L.map KeptI.v ++ [x.v]⟩ :: ⟨23, 1, hc, L.length + 1, L.map KeptI.c ++ [x.c]⟩ :: (L.map KeptI.rv ++ L.map KeptI.rc) ++ [x.rv, x.rc]).Perm (shelfI hv hc (L ++ [x])) := by
  unfold shelfI
  simp only [List.map_append, List.map_cons, List.map_nil, List.length_append, List.length_cons, List.length_nil, List.cons_append]
  refine ((List.Perm.cons _) ((List.Perm.cons _) ?_))
  rw [List.append_assoc, List.append_assoc]
  refine List.Perm.append_left _ ?_
  exact (List.perm_append_comm (l₁ := L.map KeptI.rc) (l₂ := [x.rv, x.rc])).trans ((List.Perm.cons _) (List.perm_append_comm (l₁ := [x.rc])))

theorem Tryz.infoInts : (Tryz.prog.info? 23).map (fun i => (i.zero, i.size, i.bytes)) = some (some (.slice none 0 0), 1, 24) := by kernel_rfl

/-- What keeping leaves. -/
def KeepEndI (p : Nat) (cs : Array Value) (hv hc : Value) (L : List KeptI) (v : Value) (xs : List ByteArray) (w w' : World) : Prop :=
  ∃ hv' hc' c, Has w' p 39 ((cs.setIfInBounds 0 hv').setIfInBounds 1 hc') ∧ Rows w' (shelfI hv' hc' (L ++ [⟨v, c, xs⟩])) ∧ p ∉ foot (shelfI hv' hc' (L ++ [⟨v, c, xs⟩])) ∧ Kept (p :: foot (shelfI hv hc L)) w w' ∧
    ∀ k ∈ foot (shelfI hv' hc' (L ++ [⟨v, c, xs⟩])), k ∈ foot (shelfI hv hc L) ∨ v.ownBlock = some k ∨ w.heap.size ≤ k

theorem row_one_cell {w : World} {base : Nat} {e : TypeId} {k : Nat} {v : Value} {n : Nat} {xs : List Value} (h : w.ownsRow base e k v n xs) : v.oneCell' = true := by
  obtain ⟨A, c, rfl⟩ := row_form h
  rfl

/-- A store into a block that is none of the rows'. -/
theorem Rows.past {w : World} {R : List RowS} (h : Rows w R) {p : Addr} (hp : p.block ∉ foot R) (u : Value) : Rows (w.setCell p u) R :=
  h.kept (F := [p.block]) ((Kept.refl _ _).setCell (by simp) u) (fun g hg e => by simp at e; subst e; exact hp hg)

theorem foot_turn {w w' : World} {r r' : RowS} {R : List RowS} (hg : Goes r.foot w r'.foot w') : ∀ k ∈ foot (r' :: R), k ∈ foot (r :: R) ∨ w.heap.size ≤ k := by
  intro k hk
  rw [foot_cons] at hk ⊢
  rcases List.mem_append.1 hk with h | h
  · exact (hg.2 k h).imp (fun h => List.mem_append.2 (.inl h)) id
  · exact .inl (List.mem_append.2 (.inr h))
theorem foot_perm {R Q : List RowS} (h : R.Perm Q) {k : Nat} : k ∈ foot R ↔ k ∈ foot Q := (h.flatMap_right _).mem_iff

/-- What stands when the list itself is in, and its copy not yet. -/
structure MidI (p : Nat) (cs : Array Value) (hv' hc : Value) (F0 : List Nat) (L : List KeptI) (v : Value) (xs : List ByteArray) (w W : World) : Prop where
  has : Has W p 39 (cs.setIfInBounds 0 hv')
  rows : Rows W (⟨23, 1, hv', L.length + 1, L.map KeptI.v ++ [v]⟩ :: ⟨23, 1, hc, L.length, L.map KeptI.c⟩ :: (L.map KeptI.rv ++ L.map KeptI.rc))
  from_ : ∀ k ∈ foot (⟨23, 1, hv', L.length + 1, L.map KeptI.v ++ [v]⟩ :: ⟨23, 1, hc, L.length, L.map KeptI.c⟩ :: (L.map KeptI.rv ++ L.map KeptI.rc)), k ∈ F0 ∨ w.heap.size ≤ k
  kept : Kept (p :: F0) w W
  row : W.ownsRow 0 9 1 v xs.length (cellsT xs)

theorem MidI.of {p : Nat} {cs : Array Value} {hv hv' hc : Value} {L : List KeptI} {v : Value} {xs : List ByteArray} {w w1 : World} {o : Obj} (hp : Has w p 39 cs) (hR : Rows w (shelfI hv hc L)) (hpf : p ∉ foot (shelfI hv hc L))
    (hrow : w.ownsRow 0 9 1 v xs.length (cellsT xs)) (hd : ∀ g, v.ownBlock = some g → g ≠ p ∧ g ∉ foot (shelfI hv hc L)) (hgn : Grown (w.alloc o) hv hv' w1) (hown : w1.ownsRow 0 23 1 hv' (L.length + 1) (L.map KeptI.v ++ [v])) :
    MidI p cs hv' hc (foot (shelfI hv hc L)) L v xs w (w1.setCell ⟨p, 0, none⟩ hv') := by
  have hal : Below w.heap.size w (w.alloc o) := (Below.refl _ _).alloc (Nat.le_refl _) _
  have hz := hal.size
  have hg : Goes (RowS.foot ⟨23, 1, hv, L.length, L.map KeptI.v⟩) (w.alloc o) (RowS.foot ⟨23, 1, hv', L.length + 1, L.map KeptI.v ++ [v]⟩) w1 := hgn.1
  have hRt := Rows.turn (hR.below hal) hg hown
  have hft := foot_turn (R := ⟨23, 1, hc, L.length, L.map KeptI.c⟩ :: (L.map KeptI.rv ++ L.map KeptI.rc)) hg
  have hsub : ∀ k ∈ hv.ownBlock.toList, k ∈ foot (shelfI hv hc L) := fun k hk => by
    unfold shelfI
    rw [foot_cons]
    exact List.mem_append.2 (.inl hk)
  have hpn : p ∉ hv.ownBlock.toList := fun h => hpf (hsub p h)
  have hpl := hp.inside
  have hp1 := (hp.alloc o).kept hgn.1.1 hpn
  refine ⟨hp1.put 0 hv', hRt.past (fun h => (hft p h).elim hpf (fun h => by omega)) _, fun k hk => (hft k hk).imp id (fun h => by omega), ?_, ?_⟩
  · exact (((Kept.refl _ _).alloc o).then_ hgn.1.1 (fun k hk => .inl (List.mem_cons_of_mem _ (hsub k hk)))).setCell (.inl (by simp)) _
  · refine row_kept (F := p :: hv.ownBlock.toList) hrow ((((Kept.refl _ _).alloc o).then_ hgn.1.1 (fun k hk => .inl (by simp [hk]))).setCell (.inl (by simp)) _) (fun g hg h => ?_)
    obtain ⟨h1, h2⟩ := hd g hg
    rcases List.mem_cons.1 h with rfl | h
    · exact h1 rfl
    · exact h2 (hsub g h)

theorem KeepEndI.of {p : Nat} {cs : Array Value} {hv hv' hc hc' c : Value} {L : List KeptI} {v : Value} {xs : List ByteArray} {w W w3 w4 : World} {o : Obj} (hM : MidI p cs hv' hc (foot (shelfI hv hc L)) L v xs w W) (hF0 : ∀ k ∈ foot (shelfI hv hc L), k < w.heap.size) (hpf : p ∉ foot (shelfI hv hc L))
    (hpl : p < w.heap.size) (hvl : ∀ g, v.ownBlock = some g → g < w.heap.size) (hd : ∀ g, v.ownBlock = some g → g ≠ p ∧ g ∉ foot (shelfI hv hc L)) (hb3 : Below W.heap.size W w3) (hc3 : w3.ownsRow W.heap.size 9 1 c xs.length (cellsT xs)) (hgn : Grown (w3.alloc o) hc hc' w4)
    (hown : w4.ownsRow 0 23 1 hc' (L.length + 1) (L.map KeptI.c ++ [c])) : KeepEndI p cs hv hc L v xs w (w4.setCell ⟨p, 1, none⟩ hc') := by
  have hal : Below w3.heap.size w3 (w3.alloc o) := (Below.refl _ _).alloc (Nat.le_refl _) _
  have hz3 := hb3.size
  have hza := hal.size
  have hzw := hM.kept.size
  have hb : Below W.heap.size W (w3.alloc o) := hb3.trans (hal.mono hz3)
  have hg : Goes (RowS.foot ⟨23, 1, hc, L.length, L.map KeptI.c⟩) (w3.alloc o) (RowS.foot ⟨23, 1, hc', L.length + 1, L.map KeptI.c ++ [c]⟩) w4 := hgn.1
  have hR1 := (hM.rows.below hb).perm (List.Perm.swap _ _ _)
  have hRt := (Rows.turn hR1 hg hown).perm (List.Perm.swap _ _ _)
  have hft := foot_turn (R := ⟨23, 1, hv', L.length + 1, L.map KeptI.v ++ [v]⟩ :: (L.map KeptI.rv ++ L.map KeptI.rc)) hg
  have hfrom : ∀ k ∈ foot (⟨23, 1, hv', L.length + 1, L.map KeptI.v ++ [v]⟩ :: ⟨23, 1, hc', L.length + 1, L.map KeptI.c ++ [c]⟩ :: (L.map KeptI.rv ++ L.map KeptI.rc)), k ∈ foot (shelfI hv hc L) ∨ (w.heap.size ≤ k ∧ k < W.heap.size) ∨ (w3.alloc o).heap.size ≤ k := fun k hk => by
    rcases hft k ((foot_perm (List.Perm.swap _ _ _)).1 hk) with h | h
    · have h1 := (foot_perm (List.Perm.swap _ _ _)).1 h
      exact (hM.from_ k h1).imp id (fun h2 => .inl ⟨h2, hM.rows.lt k h1⟩)
    · exact .inr (.inr h)
  have hcsub : ∀ k ∈ hc.ownBlock.toList, k ∈ foot (shelfI hv hc L) ∨ w.heap.size ≤ k := fun k hk => hM.from_ k (by
    rw [foot_cons, foot_cons]
    exact List.mem_append.2 (.inr (List.mem_append.2 (.inl hk))))
  have hclt : ∀ k ∈ hc.ownBlock.toList, k < W.heap.size := fun k hk => hM.rows.lt k (by
    rw [foot_cons, foot_cons]
    exact List.mem_append.2 (.inr (List.mem_append.2 (.inl hk))))
  have hpl2 : p < W.heap.size := by omega
  have hpn : p ∉ hc.ownBlock.toList := fun h => (hcsub p h).elim hpf (fun h => by omega)
  have hk4 : Kept hc.ownBlock.toList W w4 := (Kept.of_below hb).trans hgn.1.1
  have hrv : RowS.on ⟨9, 1, v, xs.length, cellsT xs⟩ w4 := row_kept hM.row hk4 (fun g hg h => (hcsub g h).elim (hd g hg).2 (fun h2 => by have := hvl g hg; omega))
  have hrc : RowS.on ⟨9, 1, c, xs.length, cellsT xs⟩ w4 := row_kept (row_base0 hc3) (((Kept.refl _ _).alloc o).then_ hgn.1.1 (fun k hk => .inl hk)) (fun g hg h => by have := hclt g h; have := (hc3.lt g hg).1; omega)
  have hcl : ∀ g, c.ownBlock = some g → W.heap.size ≤ g ∧ g < w3.heap.size := fun g hg => hc3.lt g hg
  have hnew : ∀ k ∈ foot [(⟨v, c, xs⟩ : KeptI).rv, (⟨v, c, xs⟩ : KeptI).rc], v.ownBlock = some k ∨ c.ownBlock = some k := fun k hk => by
    obtain ⟨r, hr, hg⟩ := mem_foot.1 hk
    simp only [List.mem_cons, List.not_mem_nil, or_false] at hr
    rcases hr with rfl | rfl
    · exact .inl hg
    · exact .inr hg
  have hpair : Rows w4 [(⟨v, c, xs⟩ : KeptI).rv, (⟨v, c, xs⟩ : KeptI).rc] := (rows_one hrv).join (rows_one hrc) (fun g h1 h2 => by
    obtain ⟨r1, hr1, hg1⟩ := mem_foot.1 h1
    obtain ⟨r2, hr2, hg2⟩ := mem_foot.1 h2
    simp only [List.mem_cons, List.not_mem_nil, or_false] at hr1 hr2
    subst hr1 hr2
    have := hvl g hg1
    have := (hcl g hg2).1
    omega)
  have hdis : ∀ g ∈ foot (⟨23, 1, hv', L.length + 1, L.map KeptI.v ++ [v]⟩ :: ⟨23, 1, hc', L.length + 1, L.map KeptI.c ++ [c]⟩ :: (L.map KeptI.rv ++ L.map KeptI.rc)), g ∉ foot [(⟨v, c, xs⟩ : KeptI).rv, (⟨v, c, xs⟩ : KeptI).rc] := fun g h1 h2 => by
    rcases hnew g h2 with h | h
    · have := hvl g h
      rcases hfrom g h1 with h3 | h3 | h3
      · exact (hd g h).2 h3
      · omega
      · omega
    · have := hcl g h
      rcases hfrom g h1 with h3 | h3 | h3
      · have := hF0 g h3
        omega
      · omega
      · omega
  have hall := hRt.join hpair hdis
  have hperm := shelfI_snoc hv' hc' L ⟨v, c, xs⟩
  have hpos : ∀ k ∈ foot (shelfI hv' hc' (L ++ [⟨v, c, xs⟩])), k ∈ foot (shelfI hv hc L) ∨ v.ownBlock = some k ∨ w.heap.size ≤ k := fun k hk => by
    have h1 := (foot_perm hperm).2 hk
    rw [foot_append] at h1
    rcases List.mem_append.1 h1 with h | h
    · rcases hfrom k h with h3 | h3 | h3
      · exact .inl h3
      · exact .inr (.inr h3.1)
      · exact .inr (.inr (by omega))
    · rcases hnew k h with h3 | h3
      · exact .inr (.inl h3)
      · have := hcl k h3
        exact .inr (.inr (by omega))
  have hpx : p ∉ foot (shelfI hv' hc' (L ++ [⟨v, c, xs⟩])) := fun h => by
    rcases hpos p h with h1 | h1 | h1
    · exact hpf h1
    · exact (hd p h1).1 rfl
    · omega
  have hp4 := (hM.has.below hb hpl2).kept hgn.1.1 hpn
  refine ⟨hv', hc', c, hp4.put 1 hc', (hall.perm hperm).past hpx _, hpx, ?_, hpos⟩
  exact (hM.kept.then_ hk4 (fun k hk => (hcsub k hk).imp (fun h => List.mem_cons_of_mem _ h) id)).setCell (.inl (by simp)) _

set_option maxRecDepth 100000 in
set_option maxHeartbeats 2000000 in
theorem bkTexts_any {w : World} {p : Nat} {cs : Array Value} {hv hc : Value} {L : List KeptI} {v : Value} {xs : List ByteArray} (hp : Has w p 39 cs) (h2 : cs[0]? = some hv) (h3 : cs[1]? = some hc) (hR : Rows w (shelfI hv hc L)) (hpf : p ∉ foot (shelfI hv hc L))
    (hrow : w.ownsRow 0 9 1 v xs.length (cellsT xs)) (hd : ∀ g, v.ownBlock = some g → g ≠ p ∧ g ∉ foot (shelfI hv hc L)) (hL : L.length < 250) (hx : xs.length ≤ 1000000) :
    Calls Tryz.prog 16 #[.pointer (some ⟨p, 0, none⟩), v] w fun e w' => e = .returned (.tuple #[]) ∧ KeepEndI p cs hv hc L v xs w w' := by
  obtain ⟨i0, hi0, hz0, hz1, hz2⟩ := info_parts Tryz.infoInts
  have hr1 : w.ownsRow 0 23 1 hv L.length (L.map KeptI.v) := hR.all ⟨23, 1, hv, L.length, L.map KeptI.v⟩ (by simp [shelfI])
  have hr2 : w.ownsRow 0 23 1 hc L.length (L.map KeptI.c) := hR.all ⟨23, 1, hc, L.length, L.map KeptI.c⟩ (by simp [shelfI])
  obtain ⟨n, hn⟩ : ∃ n, L.length = n := ⟨_, rfl⟩
  rw [hn] at hr1 hr2
  obtain ⟨A1, c1, rfl⟩ := row_form hr1
  obtain ⟨A2, c2, rfl⟩ := row_form hr2
  obtain ⟨m, hm⟩ : ∃ m, xs.length = m := ⟨_, rfl⟩
  have hrow' := hrow
  rw [hm] at hrow' hx
  obtain ⟨A3, c3, rfl⟩ := row_form hrow'
  have hv1 : (Value.slice A3 m c3).oneCell' = true := rfl
  have cc2 := (hp.cell 0).trans h2
  have cf2 := hp.free 0
  have hpl := hp.inside
  have hal : Below w.heap.size w (w.alloc (.cells #[.slice A3 m c3] 23)) := (Below.refl _ _).alloc (Nat.le_refl _) _
  have hra := World.ownsRow.alloc hr1 (.cells #[.slice A3 m c3] 23)
  rw [hn] at hL
  have HP := Lib.hid (And.intro hp (And.intro hR (And.intro hpf (And.intro hrow (And.intro hd (And.intro hal (And.intro hn (And.intro hm (And.intro h2 h3)))))))))
  have hnb : (n : Int) < 250 := by omega
  clear hp h2 h3 hR hpf hrow hd hal hn hm hr1 hr2 hrow'
  go_enter Tryz.func16, Tryz.ntmps16
  have hpn : p ∉ (Value.slice A1 n c1).ownBlock.toList := fun h => HP.out.2.2.1 (mem_foot.2 ⟨⟨23, 1, .slice A1 n c1, L.length, L.map KeptI.v⟩, by simp [shelfI], by simpa using h⟩)
  go_wp2_with (at_builtin; refine wpList_append_keeps rfl _ _ 27 23 i0 (.slice none 0 0) 1 24 Tryz.underlying27 hi0 hz0 hz1 hz2 rfl (by decide) rfl _ (.slice A1 n c1) n _ rfl hra ⟨w.heap.size, 0, none⟩ 1 1 rfl [.slice A3 m c3] rfl (cell_one_new _ _ _) (by intro u hu; simp at hu; subst hu; rfl) (by omega) (by unfold maxLen; omega) (by omega) ?_; intro hv' w1 hown1 hgn1; obtain ⟨A4, c4, rfl⟩ := row_form hown1; have hp1 := (HP.out.1.alloc (.cells #[.slice A3 m c3] 23)).kept hgn1.1.1 hpn; have cc3 := (hp1.cell 0).trans HP.out.2.2.2.2.2.2.2.2.1; have cf3 := hp1.free 0)
  clear cc2 cf2 cc3 cf3 hp1 hra
  obtain ⟨hp, hR, hpf, hrow, hd, hal, hn, hm, h2, h3⟩ := HP.out
  have hM := MidI.of hp hR hpf hrow hd hgn1 (by rw [hn]; exact hown1)
  have hF0 := hR.lt
  have hvl : ∀ g, (Value.slice A3 m c3).ownBlock = some g → g < w.heap.size := fun g hg => (hrow.lt g hg).2
  have hr2 := hM.rows.all ⟨23, 1, .slice A2 n c2, L.length, L.map KeptI.c⟩ (by simp)
  have cc3 : (w1.setCell ⟨p, 0, none⟩ (.slice A4 (n + 1) c4)).drew.cell? ⟨p, 1, none⟩ = some (.slice A2 n c2) := by
    refine (hM.has.cell 1).trans ?_
    rw [Array.getElem?_setIfInBounds_ne (by decide)]
    exact h3
  have hrw : (w1.setCell ⟨p, 0, none⟩ (.slice A4 (n + 1) c4)).drew.ownsRow 0 9 1 (.slice A3 m c3) m (cellsT xs) := by
    have := hM.row
    rw [hm] at this
    exact this.drew
  have hcp := copyTexts_any hrw hx
  have hmp : p < (w1.setCell ⟨p, 0, none⟩ (.slice A4 (n + 1) c4)).heap.size := Nat.lt_of_lt_of_le hpl hM.kept.size
  have HQ := Lib.hid (And.intro hM (And.intro hF0 (And.intro hpf (And.intro hpl (And.intro hvl (And.intro hd (And.intro hn (And.intro hm (And.intro hmp (And.intro hr2 h3))))))))))
  clear hp hR hpf hrow hd hal hn hm h2 h3 hM hF0 hvl hr2 hown1 hgn1 HP hpn hrw hmp
  generalize w1.setCell ⟨p, 0, none⟩ (.slice A4 (n + 1) c4) = W at *
  refine wp_region_tills (fun w' => w'.cell? ⟨p, 1, none⟩ = some (.slice A2 n c2)) 9 (by kernel_rfl) ?_
  refine till_takeAt 20 (i := 0) (v := .pointer (some ⟨p, 0, none⟩)) rfl rfl (by kernel_rfl) (by kernel_rfl) (by kernel_rfl) (by kernel_rfl) (by kernel_rfl) (fun _ _ _ h => h) (Or.inl ⟨by rfl, fun w' hw' => by obtain q1 := hw'; go_simp⟩) cc3 ?_
  simp only [List.setIfInBounds_toArray, List.set_cons_zero, List.set_cons_succ]
  refine till_takeAt 21 (i := 1) (v := .pointer (some ⟨p, 0, none⟩)) rfl rfl (by kernel_rfl) (by kernel_rfl) (by kernel_rfl) (by kernel_rfl) (by kernel_rfl) (fun _ _ _ h => h) (Or.inl ⟨by rfl, fun w' hw' => by obtain q1 := hw'; go_simp⟩) cc3 ?_
  simp only [List.setIfInBounds_toArray, List.set_cons_zero, List.set_cons_succ]
  refine till_takeAt 22 (i := 2) (v := .pointer (some ⟨p, 0, none⟩)) rfl rfl (by kernel_rfl) (by kernel_rfl) (by kernel_rfl) (by kernel_rfl) (by kernel_rfl) (fun _ _ _ h => h) (Or.inl ⟨by rfl, fun w' hw' => by obtain q1 := hw'; go_simp⟩) cc3 ?_
  simp only [List.setIfInBounds_toArray, List.set_cons_zero, List.set_cons_succ]
  refine till_takeAt 23 (i := 3) (v := .pointer (some ⟨p, 1, none⟩)) rfl rfl (by kernel_rfl) (by kernel_rfl) (by kernel_rfl) (by kernel_rfl) (by kernel_rfl) (fun _ _ _ h => h) (Or.inl ⟨by rfl, fun w' hw' => by obtain q1 := hw'; go_simp⟩) cc3 ?_
  simp only [List.setIfInBounds_toArray, List.set_cons_zero, List.set_cons_succ]
  refine till_takeAt 24 (i := 4) (v := .slice A2 n c2) rfl rfl (by kernel_rfl) (by kernel_rfl) (by kernel_rfl) (by kernel_rfl) (by kernel_rfl) (fun _ _ _ h => h) (Or.inl ⟨by rfl, fun w' hw' => by obtain q1 := hw'; go_simp⟩) cc3 ?_
  simp only [List.setIfInBounds_toArray, List.set_cons_zero, List.set_cons_succ]
  refine till_takeAt 25 (i := 5) (v := .slice A3 m c3) rfl rfl (by kernel_rfl) (by kernel_rfl) (by kernel_rfl) (by kernel_rfl) (by kernel_rfl) (fun _ _ _ h => h) (Or.inl ⟨by rfl, fun w' hw' => by obtain q1 := hw'; go_simp⟩) cc3 ?_
  simp only [List.setIfInBounds_toArray, List.set_cons_zero, List.set_cons_succ]
  refine till_one (i := 6) (by kernel_rfl) rfl rfl (fun K hK => ?_)
  go_simp
  refine hcp.mono ?_
  rintro e w3 ⟨c, rfl, hc3, hb3⟩
  have hb3' : Below W.heap.size W w3 := ⟨hb3.os, hb3.tape, hb3.output, hb3.size, hb3.block⟩
  have hc3' : w3.ownsRow W.heap.size 9 1 c m (cellsT xs) := hc3
  obtain ⟨hM, hF0, hpf, hpl', hvl, hd, hn, hm, hmp, hr2, h3⟩ := HQ.out
  have cc4 : w3.cell? ⟨p, 1, none⟩ = some (.slice A2 n c2) := (hb3'.cell (p := ⟨p, 1, none⟩) hmp).trans cc3
  refine hK _ _ ⟨fun _ => cc4, ?_⟩
  clear hK K hcp hb3 hc3 cc3
  obtain ⟨A5, c5, rfl⟩ := row_form hc3'
  have hb4 : Below w3.heap.size w3 (w3.alloc (.cells #[.slice A5 m c5] 23)) := (Below.refl _ _).alloc (Nat.le_refl _) _
  have hz3 := hb3'.size
  have hmp3 : p < w3.heap.size := by omega
  have cc5 : (w3.alloc (.cells #[.slice A5 m c5] 23)).cell? ⟨p, 1, none⟩ = some (.slice A2 n c2) := (hb4.cell (p := ⟨p, 1, none⟩) hmp3).trans cc4
  have hr5 : (w3.alloc (.cells #[.slice A5 m c5] 23)).ownsRow 0 23 1 (.slice A2 n c2) n (L.map KeptI.c) := by
    have h5 : (w3.alloc (.cells #[.slice A5 m c5] 23)).ownsRow 0 23 1 (.slice A2 n c2) L.length (L.map KeptI.c) := row_kept (F := []) hr2 (Kept.of_below (hb3'.trans (hb4.mono hz3))) (by simp)
    rwa [hn] at h5
  have HZ := Lib.hid (And.intro hM (And.intro hF0 (And.intro hpf (And.intro hvl (And.intro hd (And.intro hn (And.intro hm (And.intro hmp (And.intro h3 (And.intro hb3' hc3'))))))))))
  clear hM hF0 hpf hpl' hvl hd hn hm hmp hr2 h3 hb3' hc3' HQ cc4 hb4
  refine till_one (i := 7) (by kernel_rfl) rfl rfl (fun K hK => ?_)
  go_simp
  refine hK _ _ ⟨fun _ => cc5, ?_⟩
  clear hK K
  refine till_one (i := 8) (by kernel_rfl) rfl rfl (fun K hK => ?_)
  refine wp_append_keeps (.tmp 24) (.tmp 27) 27 23 i0 (.slice none 0 0) 1 24 Tryz.underlying27 hi0 hz0 hz1 hz2 rfl (by decide) rfl _ (.slice A2 n c2) n _ (by rfl) hr5 ⟨w3.heap.size, 0, none⟩ 1 1 (by rfl) [.slice A5 m c5] rfl (cell_one_new _ _ _) (by intro u hu; simp at hu; subst hu; rfl) (by omega) (by unfold maxLen; omega) (by omega) ?_
  intro hc' w4 hown4 hgn4
  obtain ⟨A6, c6, rfl⟩ := row_form hown4
  obtain ⟨hM, hF0, hpf, hvl, hd, hn, hm, hmp, h3, hb3', hc3'⟩ := HZ.out
  have hcsub : ∀ k ∈ (Value.slice A2 n c2).ownBlock.toList, k ≠ p := fun k hk e => by
    subst e
    rcases hM.from_ k (by rw [foot_cons, foot_cons]; exact List.mem_append.2 (.inr (List.mem_append.2 (.inl hk)))) with h | h
    · exact hpf h
    · omega
  have hp4 := ((hM.has.below (hb3'.trans (((Below.refl w3.heap.size w3).alloc (Nat.le_refl _) (.cells #[.slice A5 m c5] 23)).mono hz3)) hmp).kept hgn4.1.1 (fun h => hcsub p h rfl))
  have cc6 : w4.cell? ⟨p, 1, none⟩ = some (.slice A2 n c2) := by
    refine (hp4.cell 1).trans ?_
    rw [Array.getElem?_setIfInBounds_ne (by decide)]
    exact h3
  have cf6 := hp4.free 1
  have hfin := KeepEndI.of hM hF0 hpf hpl hvl hd hb3' (by rw [hm]; exact hc3') hgn4 (by rw [hn]; exact hown4)
  have HF := Lib.hid hfin
  refine hK _ _ ⟨fun _ => cc6, ?_⟩
  clear hK K hM hF0 hpf hvl hd hn hm hmp h3 hb3' hc3' HZ hp4 hfin hcsub hown4 hgn4 hr5 cc5
  refine till_one (i := 9) (by kernel_rfl) rfl rfl (fun K hK => ?_)
  go_simp
  refine hK _ _ ⟨fun h => absurd h (by omega), ?_⟩
  clear hK K
  refine till_one (i := 10) (by kernel_rfl) rfl rfl (fun K hK => ?_)
  go_simp
  refine hK _ _ ⟨fun h => absurd h (by omega), ?_⟩
  clear hK K
  refine till_one (i := 11) (by kernel_rfl) rfl rfl (fun K hK => ?_)
  go_simp
  refine hK _ _ ⟨fun h => absurd h (by omega), till_done (by kernel_rfl) ?_ _⟩
  clear hK K
  exact bodyPost_end (results_none rfl _ _ _) rfl ⟨rfl, HF.out⟩
end Go.Proofs.YtlalhinodmmgfaaGreat.BT

namespace Go.Proofs.YtlalhinodmmgfaaGreat.BT
open Go.RowKit

/-- A row that has an element: where it lies. -/
theorem row_some {w : World} {base : Nat} {e : TypeId} {k : Nat} {v : Value} {n : Nat} {xs : List Value} (h : w.ownsRow base e k v n xs) (h0 : 0 < n) : ∃ g c, v = .slice (some ⟨g, 0, none⟩) n c ∧ n ≤ c ∧ c ≤ maxLen := by
  rcases h.2 with ⟨_, h1⟩ | ⟨g, cap, cur, h1, _, _, h2, h3, _⟩
  · omega
  · exact ⟨g, cap, h1, h2, h3⟩

set_option maxRecDepth 100000 in
set_option maxHeartbeats 2000000 in
theorem stillTexts_any {w : World} {p : Nat} {cs : Array Value} {hv hc : Value} {L : List KeptI} (hp : Has w p 39 cs) (h2 : cs[0]? = some hv) (h3 : cs[1]? = some hc) (hR : Rows w (shelfI hv hc L)) (hL : L.length ≤ 250) (hx : ∀ x ∈ L, x.xs.length ≤ 1000000) :
    Calls Tryz.prog 34 #[.pointer (some ⟨p, 0, none⟩)] w fun e w' => e = .returned (.bool true) ∧ Below w.heap.size w w' := by
  have hr1 : w.ownsRow 0 23 1 hv L.length (L.map KeptI.v) := hR.all ⟨23, 1, hv, L.length, L.map KeptI.v⟩ (by simp [shelfI])
  have hr2 : w.ownsRow 0 23 1 hc L.length (L.map KeptI.c) := hR.all ⟨23, 1, hc, L.length, L.map KeptI.c⟩ (by simp [shelfI])
  obtain ⟨n, hn⟩ : ∃ n, L.length = n := ⟨_, rfl⟩
  rw [hn] at hr1 hr2 hL
  obtain ⟨A1, c1, rfl⟩ := row_form hr1
  obtain ⟨A2, c2, rfl⟩ := row_form hr2
  have HP := Lib.hid (And.intro hp (And.intro hR (And.intro hr1 (And.intro hr2 (And.intro hn (And.intro hx (And.intro h2 h3)))))))
  clear hp h2 h3 hR hr1 hr2 hn hx
  go_enter Tryz.func34, Tryz.ntmps34
  go_wp2_with fail
  go_loopg [3] n (fun g i wr => ∃ k : Nat, i = .int .i64 k ∧ k + g = n ∧ Below w.heap.size w wr)
  case atStart => exact ⟨0, rfl, by omega, Below.refl _ _⟩
  case round =>
    obtain ⟨k, rfl, hkg, hbw⟩ := hrel
    obtain ⟨hp, hR, hr1, hr2, hn, hx, h2, h3⟩ := HP.out
    have hpw := hp.below hbw hp.inside
    have hRw := hR.below hbw
    have q1 : wr.cell? ⟨p, 0, none⟩ = some (.slice A1 n c1) := (hpw.cell 0).trans h2
    have q3 : wr.cell? ⟨p, 1, none⟩ = some (.slice A2 n c2) := (hpw.cell 1).trans h3
    by_cases hlt : k < n
    · have hkl : k < L.length := by omega
      obtain ⟨g1, c1', e1, hle1, _⟩ := row_some hr1 (by omega)
      obtain ⟨g2, c2', e2, hle2, _⟩ := row_some hr2 (by omega)
      cases e1
      cases e2
      have q2 : wr.cell? ⟨g1, k, none⟩ = some L[k].v := by
        have h := (hRw.all ⟨23, 1, .slice (some ⟨g1, 0, none⟩) n c1, L.length, L.map KeptI.v⟩ (by simp [shelfI]))
        unfold RowS.on at h
        rw [hn] at h
        rw [h.cellAt k (by show k < n * 1; omega)]
        simp [hkl]
      have q4 : wr.cell? ⟨g2, k, none⟩ = some L[k].c := by
        have h := (hRw.all ⟨23, 1, .slice (some ⟨g2, 0, none⟩) n c2, L.length, L.map KeptI.c⟩ (by simp [shelfI]))
        unfold RowS.on at h
        rw [hn] at h
        rw [h.cellAt k (by show k < n * 1; omega)]
        simp [hkl]
      have ha : RowS.on L[k].rv wr.drew := World.ownsRow.drew (hRw.all L[k].rv (by simp only [shelfI, List.mem_cons, List.mem_append]; exact .inr (.inr (.inl (List.mem_map_of_mem (List.getElem_mem hkl))))))
      have hb : RowS.on L[k].rc wr.drew := World.ownsRow.drew (hRw.all L[k].rc (by simp only [shelfI, List.mem_cons, List.mem_append]; exact .inr (.inr (.inr (List.mem_map_of_mem (List.getElem_mem hkl))))))
      have hsm := sameTexts_any L[k].v L[k].c L[k].xs wr.drew (row_reads1 ha) (row_reads1 hb) (hx _ (List.getElem_mem hkl))
      obtain ⟨A3, c3, e3⟩ := row_form ha
      obtain ⟨A4, c4, e4⟩ := row_form hb
      simp only [KeptI.rv] at e3
      simp only [KeptI.rc] at e4
      rw [e3] at q2 hsm
      rw [e4] at q4 hsm
      generalize L[k].xs.length = m at *
      have hS : wr.drew.cell? ⟨p, 0, none⟩ = some (.slice (some ⟨g1, 0, none⟩) n c1) ∧ wr.drew.cell? ⟨g1, k, none⟩ = some (.slice A3 m c3) ∧ wr.drew.cell? ⟨p, 1, none⟩ = some (.slice (some ⟨g2, 0, none⟩) n c2) ∧ wr.drew.cell? ⟨g2, k, none⟩ = some (.slice A4 m c4) := ⟨q1, q2, q3, q4⟩
      have HB := Lib.hid hbw
      have HS := Lib.hid hsm
      have k0 : (0 : Int) ≤ k := by omega
      have k1 : (k : Int) < n := by omega
      clear hp hR hr1 hr2 hn hx h2 h3 hpw hRw q2 q3 q4 hbw hsm ha hb e3 e4 hkl
      go_wp2_with fail
      clear q1
      refine wp_region_tills (fun w' => w'.cell? ⟨p, 0, none⟩ = some (.slice (some ⟨g1, 0, none⟩) n c1) ∧ w'.cell? ⟨g1, k, none⟩ = some (.slice A3 m c3) ∧ w'.cell? ⟨p, 1, none⟩ = some (.slice (some ⟨g2, 0, none⟩) n c2) ∧ w'.cell? ⟨g2, k, none⟩ = some (.slice A4 m c4)) 14 (by kernel_rfl) ?_
      refine till_takeAt 13 (i := 0) (v := .pointer (some ⟨p, 0, none⟩)) rfl rfl (by kernel_rfl) (by kernel_rfl) (by kernel_rfl) (by kernel_rfl) (by kernel_rfl) (fun _ _ _ h => h) (Or.inl ⟨by rfl, fun w' hw' => by obtain ⟨q1, q2, q3, q4⟩ := hw'; go_simp⟩) hS ?_
      simp only [List.setIfInBounds_toArray, List.set_cons_zero, List.set_cons_succ]
      refine till_takeAt 14 (i := 1) (v := .pointer (some ⟨p, 0, none⟩)) rfl rfl (by kernel_rfl) (by kernel_rfl) (by kernel_rfl) (by kernel_rfl) (by kernel_rfl) (fun _ _ _ h => h) (Or.inl ⟨by rfl, fun w' hw' => by obtain ⟨q1, q2, q3, q4⟩ := hw'; go_simp⟩) hS ?_
      simp only [List.setIfInBounds_toArray, List.set_cons_zero, List.set_cons_succ]
      refine till_takeAt 15 (i := 2) (v := .pointer (some ⟨p, 0, none⟩)) rfl rfl (by kernel_rfl) (by kernel_rfl) (by kernel_rfl) (by kernel_rfl) (by kernel_rfl) (fun _ _ _ h => h) (Or.inl ⟨by rfl, fun w' hw' => by obtain ⟨q1, q2, q3, q4⟩ := hw'; go_simp⟩) hS ?_
      simp only [List.setIfInBounds_toArray, List.set_cons_zero, List.set_cons_succ]
      refine till_takeAt 16 (i := 3) (v := .slice (some ⟨g1, 0, none⟩) n c1) rfl rfl (by kernel_rfl) (by kernel_rfl) (by kernel_rfl) (by kernel_rfl) (by kernel_rfl) (fun _ _ _ h => h) (Or.inl ⟨by rfl, fun w' hw' => by obtain ⟨q1, q2, q3, q4⟩ := hw'; go_simp⟩) hS ?_
      simp only [List.setIfInBounds_toArray, List.set_cons_zero, List.set_cons_succ]
      refine till_takeAt 17 (i := 4) (v := .int .i64 k) rfl rfl (by kernel_rfl) (by kernel_rfl) (by kernel_rfl) (by kernel_rfl) (by kernel_rfl) (fun _ _ _ h => h) (Or.inl ⟨by rfl, fun w' hw' => by obtain ⟨q1, q2, q3, q4⟩ := hw'; go_simp⟩) hS ?_
      simp only [List.setIfInBounds_toArray, List.set_cons_zero, List.set_cons_succ]
      refine till_takeAt 18 (i := 5) (v := .pointer (some ⟨g1, k, none⟩)) rfl rfl (by kernel_rfl) (by kernel_rfl) (by kernel_rfl) (by kernel_rfl) (by kernel_rfl) (fun _ _ _ h => h) (Or.inl ⟨by rfl, fun w' hw' => by obtain ⟨q1, q2, q3, q4⟩ := hw'; go_simp⟩) hS ?_
      simp only [List.setIfInBounds_toArray, List.set_cons_zero, List.set_cons_succ]
      refine till_takeAt 19 (i := 6) (v := .slice A3 m c3) rfl rfl (by kernel_rfl) (by kernel_rfl) (by kernel_rfl) (by kernel_rfl) (by kernel_rfl) (fun _ _ _ h => h) (Or.inl ⟨by rfl, fun w' hw' => by obtain ⟨q1, q2, q3, q4⟩ := hw'; go_simp⟩) hS ?_
      simp only [List.setIfInBounds_toArray, List.set_cons_zero, List.set_cons_succ]
      refine till_takeAt 20 (i := 7) (v := .pointer (some ⟨p, 0, none⟩)) rfl rfl (by kernel_rfl) (by kernel_rfl) (by kernel_rfl) (by kernel_rfl) (by kernel_rfl) (fun _ _ _ h => h) (Or.inl ⟨by rfl, fun w' hw' => by obtain ⟨q1, q2, q3, q4⟩ := hw'; go_simp⟩) hS ?_
      simp only [List.setIfInBounds_toArray, List.set_cons_zero, List.set_cons_succ]
      refine till_takeAt 21 (i := 8) (v := .pointer (some ⟨p, 0, none⟩)) rfl rfl (by kernel_rfl) (by kernel_rfl) (by kernel_rfl) (by kernel_rfl) (by kernel_rfl) (fun _ _ _ h => h) (Or.inl ⟨by rfl, fun w' hw' => by obtain ⟨q1, q2, q3, q4⟩ := hw'; go_simp⟩) hS ?_
      simp only [List.setIfInBounds_toArray, List.set_cons_zero, List.set_cons_succ]
      refine till_takeAt 22 (i := 9) (v := .pointer (some ⟨p, 1, none⟩)) rfl rfl (by kernel_rfl) (by kernel_rfl) (by kernel_rfl) (by kernel_rfl) (by kernel_rfl) (fun _ _ _ h => h) (Or.inl ⟨by rfl, fun w' hw' => by obtain ⟨q1, q2, q3, q4⟩ := hw'; go_simp⟩) hS ?_
      simp only [List.setIfInBounds_toArray, List.set_cons_zero, List.set_cons_succ]
      refine till_takeAt 23 (i := 10) (v := .slice (some ⟨g2, 0, none⟩) n c2) rfl rfl (by kernel_rfl) (by kernel_rfl) (by kernel_rfl) (by kernel_rfl) (by kernel_rfl) (fun _ _ _ h => h) (Or.inl ⟨by rfl, fun w' hw' => by obtain ⟨q1, q2, q3, q4⟩ := hw'; go_simp⟩) hS ?_
      simp only [List.setIfInBounds_toArray, List.set_cons_zero, List.set_cons_succ]
      refine till_takeAt 24 (i := 11) (v := .int .i64 k) rfl rfl (by kernel_rfl) (by kernel_rfl) (by kernel_rfl) (by kernel_rfl) (by kernel_rfl) (fun _ _ _ h => h) (Or.inl ⟨by rfl, fun w' hw' => by obtain ⟨q1, q2, q3, q4⟩ := hw'; go_simp⟩) hS ?_
      simp only [List.setIfInBounds_toArray, List.set_cons_zero, List.set_cons_succ]
      refine till_takeAt 25 (i := 12) (v := .pointer (some ⟨g2, k, none⟩)) rfl rfl (by kernel_rfl) (by kernel_rfl) (by kernel_rfl) (by kernel_rfl) (by kernel_rfl) (fun _ _ _ h => h) (Or.inl ⟨by rfl, fun w' hw' => by obtain ⟨q1, q2, q3, q4⟩ := hw'; go_simp⟩) hS ?_
      simp only [List.setIfInBounds_toArray, List.set_cons_zero, List.set_cons_succ]
      refine till_takeAt 26 (i := 13) (v := .slice A4 m c4) rfl rfl (by kernel_rfl) (by kernel_rfl) (by kernel_rfl) (by kernel_rfl) (by kernel_rfl) (fun _ _ _ h => h) (Or.inl ⟨by rfl, fun w' hw' => by obtain ⟨q1, q2, q3, q4⟩ := hw'; go_simp⟩) hS ?_
      simp only [List.setIfInBounds_toArray, List.set_cons_zero, List.set_cons_succ]
      clear hS
      refine till_one (i := 14) (by kernel_rfl) rfl rfl (fun K hK => ?_)
      go_simp
      refine HS.out.mono ?_
      rintro e w1 ⟨rfl, hb1⟩
      refine hK _ _ ⟨fun h => absurd h (by omega), ?_⟩
      clear hK K
      have HB1 := Lib.hid (show Below w.heap.size w w1 from HB.out.trans (Below.mono ⟨hb1.os, hb1.tape, hb1.output, hb1.size, hb1.block⟩ HB.out.size))
      clear hb1
      refine till_one (i := 15) (by kernel_rfl) rfl rfl (fun K hK => ?_)
      go_simp
      refine hK _ _ ⟨fun h => absurd h (by omega), till_done (by kernel_rfl) ?_ _⟩
      clear hK K
      go_wp2
      go_roundg (n - (k + 1))
      case measure => omega
      case rel => exact ⟨k + 1, by go_num, by omega, HB1.out⟩
    · obtain rfl : k = n := by omega
      have HB := Lib.hid hbw
      clear hp hR hr1 hr2 hn hx h2 h3 hpw hRw q3 hbw
      go_wp2_with fail
      go_ret
      exact ⟨rfl, HB.out⟩
end Go.Proofs.YtlalhinodmmgfaaGreat.BT

namespace Go.Proofs.YtlalhinodmmgfaaGreat.BT
open Go.RowKit

/-- n lists of one's own, side by side, and the slice of them. -/
structure VSt (w : World) (hv : Value) (n : Nat) (vs : Nat → Value) (c : Nat → List ByteArray) : Prop where
  hd : w.ownsRow 0 23 1 hv n ((List.range n).map vs)
  row : ∀ j, j < n → w.ownsRow 0 9 1 (vs j) (c j).length (cellsT (c j))
  apart : ∀ i j, i < n → j < n → i ≠ j → ∀ g, (vs i).ownBlock = some g → (vs j).ownBlock ≠ some g
  apartH : ∀ j, j < n → ∀ g, hv.ownBlock = some g → (vs j).ownBlock ≠ some g

def vblocks (n : Nat) (vs : Nat → Value) : List Nat := (List.range n).flatMap fun j => (vs j).ownBlock.toList
theorem mem_vblocks {n : Nat} {vs : Nat → Value} {g : Nat} : g ∈ vblocks n vs ↔ ∃ j, j < n ∧ (vs j).ownBlock = some g := by
  unfold vblocks
  simp

section
variable {w w' : World} {hv : Value} {n : Nat} {vs : Nat → Value} {c c' : Nat → List ByteArray}
theorem VSt.kept {F : List Nat} (h : VSt w hv n vs c) (hk : Kept F w w') (hF : ∀ g ∈ F, hv.ownBlock ≠ some g ∧ ∀ j, j < n → (vs j).ownBlock ≠ some g) : VSt w' hv n vs c :=
  ⟨row_kept h.hd hk (fun g hg hF' => (hF g hF').1 hg), fun j hj => row_kept (h.row j hj) hk (fun g hg hF' => (hF g hF').2 j hj hg), h.apart, h.apartH⟩
theorem VSt.below (h : VSt w hv n vs c) (hb : Below w.heap.size w w') : VSt w' hv n vs c := h.kept (F := []) (Kept.of_below hb) (by simp)
theorem VSt.congr (h : VSt w hv n vs c) (he : ∀ j, j < n → c' j = c j) : VSt w hv n vs c' := ⟨h.hd, fun j hj => by rw [he j hj]; exact h.row j hj, h.apart, h.apartH⟩
theorem VSt.lt (h : VSt w hv n vs c) : ∀ j, j < n → ∀ g, (vs j).ownBlock = some g → g < w.heap.size := fun j hj g hg => ((h.row j hj).lt g hg).2
theorem VSt.ltH (h : VSt w hv n vs c) : ∀ g, hv.ownBlock = some g → g < w.heap.size := fun g hg => (h.hd.lt g hg).2

/-- One number of one list is written. -/
theorem VSt.put (h : VSt w hv n vs c) {i k g cap : Nat} (hi : i < n) (hv' : vs i = .slice (some ⟨g, 0, none⟩) (c i).length cap) (x : ByteArray) (he : ∀ j, j < n → j ≠ i → c' j = c j) (hs : c' i = (c i).set k x) : VSt (w.setCell ⟨g, k, none⟩ (.string x)) hv n vs c' := by
  have hg : (vs i).ownBlock = some g := by rw [hv']; rfl
  have hk : Kept [g] w (w.setCell ⟨g, k, none⟩ (.string x)) := (Kept.refl _ _).setCell (p := ⟨g, k, none⟩) (by simp) _
  refine ⟨row_kept h.hd hk (fun g' hg' hF => by simp at hF; subst hF; exact h.apartH i hi g' hg' hg), fun j hj => ?_, h.apart, h.apartH⟩
  by_cases hji : j = i
  · subst hji
    have h1 := h.row j hj
    rw [hv'] at h1
    obtain ⟨h2, _⟩ := h1.stored k (.string x)
    rw [hs, hv', List.length_set]
    have : cellsT ((c j).set k x) = (cellsT (c j)).set k (.string x) := by simp [cellsT, List.map_set]
    rw [this]
    exact h2
  · rw [he j hj hji]
    exact row_kept (h.row j hj) hk (fun g' hg' hF => by simp at hF; subst hF; exact h.apart j i hj hi hji g' hg' hg)
end

/-- All lists ahead of i are marked, of list i the first k numbers. -/
def cI (c : Nat → List ByteArray) (i k : Nat) : Nat → List ByteArray := fun j => if j < i then marksT j 0 (c j).length else if j = i then marksT i 0 k ++ (c i).drop k else c j
theorem cI_start (c : Nat → List ByteArray) : ∀ j, cI c 0 0 j = c j := by
  intro j
  unfold cI
  rw [if_neg (by omega)]
  split
  · rename_i h; subst h; simp [marksT]
  · rfl
theorem cI_next (c : Nat → List ByteArray) (i : Nat) : ∀ j, cI c (i + 1) 0 j = cI c i (c i).length j := by
  intro j
  unfold cI
  rcases Nat.lt_trichotomy j i with h | h | h
  · rw [if_pos (show j < i + 1 by omega), if_pos h]
  · subst h
    rw [if_pos (show j < j + 1 by omega), if_neg (show ¬ j < j by omega), if_pos rfl]
    simp
  · rw [if_neg (show ¬ j < i + 1 by omega), if_neg (show ¬ j < i by omega), if_neg (show ¬ j = i by omega)]
    split
    · rename_i e; subst e; simp [marksT]
    · rfl
theorem cI_all (c : Nat → List ByteArray) (n : Nat) : ∀ j, j < n → cI c n 0 j = marksT j 0 (c j).length := by
  intro j hj
  unfold cI
  rw [if_pos hj]
theorem cI_at (c : Nat → List ByteArray) (i k : Nat) : cI c i k i = marksT i 0 k ++ (c i).drop k := by
  unfold cI
  rw [if_neg (by omega), if_pos rfl]
theorem cI_other (c : Nat → List ByteArray) (i k k' : Nat) : ∀ j, j ≠ i → cI c i k' j = cI c i k j := by
  intro j hj
  unfold cI
  rw [if_neg hj, if_neg hj]
theorem length_cI_at (c : Nat → List ByteArray) (i k : Nat) (hk : k ≤ (c i).length) : (cI c i k i).length = (c i).length := by
  rw [cI_at, List.length_append, length_marksT, List.length_drop]
  omega
theorem cI_set (c : Nat → List ByteArray) (i k : Nat) (hk : k < (c i).length) : cI c i (k + 1) i = (cI c i k i).set k (nameB i k) := by
  rw [cI_at, cI_at, marksT_snoc, List.drop_eq_getElem_cons hk, List.set_append_right _ _ (by rw [length_marksT]; exact Nat.le_refl _), length_marksT, Nat.sub_self, List.set_cons_zero, Nat.zero_add, List.append_assoc]
  rfl

def PutEndI (w : World) (hv : Value) (n : Nat) (vs : Nat → Value) (c : Nat → List ByteArray) (w' : World) : Prop :=
  VSt w' hv n vs (fun j => marksT j 0 (c j).length) ∧ Kept (vblocks n vs) w w'

def PutAtI (w : World) (hv : Value) (n : Nat) (vs : Nat → Value) (c : Nat → List ByteArray) (i k : Nat) (wr : World) : Prop :=
  VSt wr hv n vs (cI c i k) ∧ Kept (vblocks n vs) w wr

set_option maxRecDepth 100000 in
set_option maxHeartbeats 2000000 in
theorem putTexts_any {w : World} {p : Nat} {cs : Array Value} {hv : Value} {n : Nat} {vs : Nat → Value} {c : Nat → List ByteArray} (hp : Has w p 39 cs) (h2 : cs[0]? = some hv) (hV : VSt w hv n vs c) (hpn : ∀ j, j < n → (vs j).ownBlock ≠ some p) (hn : n ≤ 250) (hx : ∀ j, j < n → (c j).length ≤ 1000000) :
    Calls Tryz.prog 47 #[.pointer (some ⟨p, 0, none⟩)] w fun e w' => e = .returned (.tuple #[]) ∧ PutEndI w hv n vs c w' := by
  obtain ⟨A1, c1, rfl⟩ := row_form hV.hd
  have hpf : p ∉ vblocks n vs := fun h => by obtain ⟨j, hj, hg⟩ := mem_vblocks.1 h; exact hpn j hj hg
  have HP := Lib.hid (And.intro hp (And.intro hV (And.intro hpf (And.intro hx h2))))
  have hc := (hp.cell 0).trans h2
  clear hp h2 hV hpn hx hpf hc
  go_enter Tryz.func47, Tryz.ntmps47
  go_wp2_with fail
  go_loopg [2] n (fun g iv wr => ∃ i : Nat, iv = .int .i64 i ∧ i + g = n ∧ PutAtI w (.slice A1 n c1) n vs c i 0 wr)
  case atStart => exact ⟨0, rfl, by omega, HP.out.2.1.congr (fun j _ => cI_start c j), Kept.refl _ _⟩
  case round =>
    obtain ⟨i, rfl, hig, hV, hk⟩ := hrel
    obtain ⟨hp0, hV0, hpf, hx, h2⟩ := HP.out
    have hp := hp0.kept hk hpf
    have q1 : wr.cell? ⟨p, 0, none⟩ = some (.slice A1 n c1) := (hp.cell 0).trans h2
    by_cases hlt : i < n
    · obtain ⟨g1, c1', e1, hle1, _⟩ := row_some hV.hd (by omega)
      cases e1
      have hri := hV.row i hlt
      have hli : (cI c i 0 i).length = (c i).length := length_cI_at c i 0 (Nat.zero_le _)
      rw [hli] at hri
      have hxi := hx i hlt
      obtain ⟨m, hm⟩ : ∃ m, (c i).length = m := ⟨_, rfl⟩
      rw [hm] at hri hxi
      obtain ⟨A3, c3, e3⟩ := row_form hri
      have q2 : wr.cell? ⟨g1, i, none⟩ = some (.slice A3 m c3) := by
        rw [hV.hd.cellAt i (by omega)]
        simp [hlt, e3]
      have hmk := markTexts_any i 0 m wr (by omega) (by omega) (by omega)
      have HB := Lib.hid (And.intro hV (And.intro hk (And.intro hm e3)))
      have HX := Lib.hid hxi
      have i0 : (0 : Int) ≤ i := by omega
      have i1 : (i : Int) < n := by omega
      have hm1 : (m : Int) ≤ 1000000 := by omega
      clear hp0 hV0 hpf hx h2 hV hk hp hri hli hm e3 hxi
      go_wp2_with fail
      refine hmk.mono ?_
      rintro e w1 ⟨mv, rfl, hmr, hb1⟩
      obtain ⟨A4, c4, rfl⟩ := row_form hmr
      obtain ⟨hV, hk, hm, e3⟩ := HB.out
      have hst : PutAtI w (.slice (some ⟨g1, 0, none⟩) n c1) n vs c i 0 w1 := ⟨hV.below hb1, hk.trans (Kept.of_below hb1)⟩
      have H1 := Lib.hid (And.intro hst (And.intro hmr (And.intro hm (And.intro e3 hk.size))))
      have hlv := hV.lt
      have hltv : ∀ j, j < n → ∀ g, (vs j).ownBlock = some g → g < wr.heap.size := hlv
      have HLV := Lib.hid hltv
      clear hst hmr hb1 hV hk hm e3 HB hmk hlv hltv q1 q2
      go_wp2_with fail
      go_loopg [4] m (fun g kv ws => ∃ k : Nat, kv = .int .i64 k ∧ k + g = m ∧ PutAtI w (.slice (some ⟨g1, 0, none⟩) n c1) n vs c i k ws ∧ ws.ownsRow 0 9 1 (.slice A4 m c4) m (cellsT (marksT i 0 m)))
      case atStart => exact ⟨0, rfl, by omega, H1.out.1, row_base0 H1.out.2.1⟩
      case round =>
        obtain ⟨k, rfl, hkg, ⟨hV, hk⟩, hmr⟩ := hrel
        obtain ⟨_, hmr0, hm, e3, hsz⟩ := H1.out
        by_cases hltk : k < m
        · obtain ⟨hp0, hV0, hpf, hx, h2⟩ := HP.out
          have hp := hp0.kept hk hpf
          have q1 : wr.drew.cell? ⟨p, 0, none⟩ = some (.slice (some ⟨g1, 0, none⟩) n c1) := (hp.cell 0).trans h2
          have hri := hV.row i hlt
          have hlci := length_cI_at c i k (by omega)
          rw [hlci, hm, e3] at hri
          obtain ⟨g3, c3', e3', hle3, _⟩ := row_some hri (by omega)
          cases e3'
          obtain ⟨g4, c4', e4', hle4, _⟩ := row_some hmr (by omega)
          cases e4'
          have q2 : wr.drew.cell? ⟨g1, i, none⟩ = some (.slice (some ⟨g3, 0, none⟩) m c3) := by
            refine (hV.hd.cellAt i (by omega)).trans ?_
            simp [hlt, e3]
          have q3 : wr.drew.cell? ⟨g4, k, none⟩ = some (.string (nameB i k)) := by
            refine (hmr.cellAt k (by omega)).trans ?_
            simp [cellsT, marksT, hltk]
          obtain ⟨old, q4⟩ : ∃ old, wr.drew.cell? ⟨g3, k, none⟩ = some (.string old) := by
            have : k < (cI c i k i).length := by omega
            refine ⟨(cI c i k i)[k], (hri.cellAt k (by omega)).trans ?_⟩
            simp [cellsT, this]
          have f4 : wr.drew.frozen? ⟨g3, k, none⟩ = false := hri.frozenAt k
          have hg3v : (vs i).ownBlock = some g3 := by rw [e3]; rfl
          have hg34 : g3 ≠ g4 := fun e => by
            have h6 := HLV.out i hlt g3 hg3v
            have h7 := (hmr0.lt g4 rfl).1
            omega
          have hVd : VSt wr.drew (.slice (some ⟨g1, 0, none⟩) n c1) n vs (cI c i k) := hV.kept (F := []) (Kept.refl _ _).drew (by simp)
          have hV' := hVd.put (c' := cI c i (k + 1)) (k := k) (g := g3) (cap := c3) hlt (by rw [e3, hlci, hm]) (nameB i k) (fun j _ hj => cI_other c i k (k + 1) j hj) (cI_set c i k (by omega))
          have hk' : Kept (vblocks n vs) w (wr.drew.setCell ⟨g3, k, none⟩ (.string (nameB i k))) := hk.drew.setCell (.inl (mem_vblocks.2 ⟨i, hlt, hg3v⟩)) _
          have hmr' : (wr.drew.setCell ⟨g3, k, none⟩ (.string (nameB i k))).ownsRow 0 9 1 (.slice (some ⟨g4, 0, none⟩) m c4) m (cellsT (marksT i 0 m)) :=
            row_kept hmr ((Kept.refl [g3] _).drew.setCell (p := ⟨g3, k, none⟩) (by simp) _) (fun g hg hF => by simp at hF; subst hF; cases hg; exact hg34 rfl)
          have HF := Lib.hid (And.intro hV' (And.intro hk' hmr'))
          have hS : wr.drew.cell? ⟨p, 0, none⟩ = some (.slice (some ⟨g1, 0, none⟩) n c1) ∧ wr.drew.cell? ⟨g1, i, none⟩ = some (.slice (some ⟨g3, 0, none⟩) m c3) ∧ wr.drew.cell? ⟨g4, k, none⟩ = some (.string (nameB i k)) := ⟨q1, q2, q3⟩
          have k0 : (0 : Int) ≤ k := by omega
          have k1 : (k : Int) < m := by omega
          clear hp0 hV0 hpf hx h2 hp q1 q2 q3 hri hlci hVd hV' hk' hmr' hV hk hmr hmr0 hm hsz hg34 hg3v e3 HLV H1
          go_wp2_with fail
          refine wp_region_tills (fun w' => w'.cell? ⟨p, 0, none⟩ = some (.slice (some ⟨g1, 0, none⟩) n c1) ∧ w'.cell? ⟨g1, i, none⟩ = some (.slice (some ⟨g3, 0, none⟩) m c3) ∧ w'.cell? ⟨g4, k, none⟩ = some (.string (nameB i k))) 12 (by kernel_rfl) ?_
          refine till_takeAt 30 (i := 0) (v := .pointer (some ⟨p, 0, none⟩)) rfl rfl (by kernel_rfl) (by kernel_rfl) (by kernel_rfl) (by kernel_rfl) (by kernel_rfl) (fun _ _ _ h => h) (Or.inl ⟨by rfl, fun w' hw' => by obtain ⟨q1, q2, q3⟩ := hw'; go_simp⟩) hS ?_
          simp only [List.setIfInBounds_toArray, List.set_cons_zero, List.set_cons_succ]
          refine till_takeAt 31 (i := 1) (v := .pointer (some ⟨p, 0, none⟩)) rfl rfl (by kernel_rfl) (by kernel_rfl) (by kernel_rfl) (by kernel_rfl) (by kernel_rfl) (fun _ _ _ h => h) (Or.inl ⟨by rfl, fun w' hw' => by obtain ⟨q1, q2, q3⟩ := hw'; go_simp⟩) hS ?_
          simp only [List.setIfInBounds_toArray, List.set_cons_zero, List.set_cons_succ]
          refine till_takeAt 32 (i := 2) (v := .pointer (some ⟨p, 0, none⟩)) rfl rfl (by kernel_rfl) (by kernel_rfl) (by kernel_rfl) (by kernel_rfl) (by kernel_rfl) (fun _ _ _ h => h) (Or.inl ⟨by rfl, fun w' hw' => by obtain ⟨q1, q2, q3⟩ := hw'; go_simp⟩) hS ?_
          simp only [List.setIfInBounds_toArray, List.set_cons_zero, List.set_cons_succ]
          refine till_takeAt 33 (i := 3) (v := .slice (some ⟨g1, 0, none⟩) n c1) rfl rfl (by kernel_rfl) (by kernel_rfl) (by kernel_rfl) (by kernel_rfl) (by kernel_rfl) (fun _ _ _ h => h) (Or.inl ⟨by rfl, fun w' hw' => by obtain ⟨q1, q2, q3⟩ := hw'; go_simp⟩) hS ?_
          simp only [List.setIfInBounds_toArray, List.set_cons_zero, List.set_cons_succ]
          refine till_takeAt 34 (i := 4) (v := .int .i64 i) rfl rfl (by kernel_rfl) (by kernel_rfl) (by kernel_rfl) (by kernel_rfl) (by kernel_rfl) (fun _ _ _ h => h) (Or.inl ⟨by rfl, fun w' hw' => by obtain ⟨q1, q2, q3⟩ := hw'; go_simp⟩) hS ?_
          simp only [List.setIfInBounds_toArray, List.set_cons_zero, List.set_cons_succ]
          refine till_takeAt 35 (i := 5) (v := .pointer (some ⟨g1, i, none⟩)) rfl rfl (by kernel_rfl) (by kernel_rfl) (by kernel_rfl) (by kernel_rfl) (by kernel_rfl) (fun _ _ _ h => h) (Or.inl ⟨by rfl, fun w' hw' => by obtain ⟨q1, q2, q3⟩ := hw'; go_simp⟩) hS ?_
          simp only [List.setIfInBounds_toArray, List.set_cons_zero, List.set_cons_succ]
          refine till_takeAt 36 (i := 6) (v := .slice (some ⟨g3, 0, none⟩) m c3) rfl rfl (by kernel_rfl) (by kernel_rfl) (by kernel_rfl) (by kernel_rfl) (by kernel_rfl) (fun _ _ _ h => h) (Or.inl ⟨by rfl, fun w' hw' => by obtain ⟨q1, q2, q3⟩ := hw'; go_simp⟩) hS ?_
          simp only [List.setIfInBounds_toArray, List.set_cons_zero, List.set_cons_succ]
          refine till_takeAt 37 (i := 7) (v := .int .i64 k) rfl rfl (by kernel_rfl) (by kernel_rfl) (by kernel_rfl) (by kernel_rfl) (by kernel_rfl) (fun _ _ _ h => h) (Or.inl ⟨by rfl, fun w' hw' => by obtain ⟨q1, q2, q3⟩ := hw'; go_simp⟩) hS ?_
          simp only [List.setIfInBounds_toArray, List.set_cons_zero, List.set_cons_succ]
          refine till_takeAt 38 (i := 8) (v := .slice (some ⟨g4, 0, none⟩) m c4) rfl rfl (by kernel_rfl) (by kernel_rfl) (by kernel_rfl) (by kernel_rfl) (by kernel_rfl) (fun _ _ _ h => h) (Or.inl ⟨by rfl, fun w' hw' => by obtain ⟨q1, q2, q3⟩ := hw'; go_simp⟩) hS ?_
          simp only [List.setIfInBounds_toArray, List.set_cons_zero, List.set_cons_succ]
          refine till_takeAt 39 (i := 9) (v := .int .i64 k) rfl rfl (by kernel_rfl) (by kernel_rfl) (by kernel_rfl) (by kernel_rfl) (by kernel_rfl) (fun _ _ _ h => h) (Or.inl ⟨by rfl, fun w' hw' => by obtain ⟨q1, q2, q3⟩ := hw'; go_simp⟩) hS ?_
          simp only [List.setIfInBounds_toArray, List.set_cons_zero, List.set_cons_succ]
          refine till_takeAt 40 (i := 10) (v := .pointer (some ⟨g4, k, none⟩)) rfl rfl (by kernel_rfl) (by kernel_rfl) (by kernel_rfl) (by kernel_rfl) (by kernel_rfl) (fun _ _ _ h => h) (Or.inl ⟨by rfl, fun w' hw' => by obtain ⟨q1, q2, q3⟩ := hw'; go_simp⟩) hS ?_
          simp only [List.setIfInBounds_toArray, List.set_cons_zero, List.set_cons_succ]
          refine till_takeAt 41 (i := 11) (v := .string (nameB i k)) rfl rfl (by kernel_rfl) (by kernel_rfl) (by kernel_rfl) (by kernel_rfl) (by kernel_rfl) (fun _ _ _ h => h) (Or.inl ⟨by rfl, fun w' hw' => by obtain ⟨q1, q2, q3⟩ := hw'; go_simp⟩) hS ?_
          simp only [List.setIfInBounds_toArray, List.set_cons_zero, List.set_cons_succ]
          clear hS
          refine till_one (i := 12) (by kernel_rfl) rfl rfl (fun K hK => ?_)
          go_simp
          refine hK _ _ ⟨fun h => absurd h (by omega), ?_⟩
          clear hK K
          refine till_one (i := 13) (by kernel_rfl) rfl rfl (fun K hK => ?_)
          go_simp
          refine hK _ _ ⟨fun h => absurd h (by omega), till_done (by kernel_rfl) ?_ _⟩
          clear hK K
          go_wp2
          go_roundg (m - (k + 1))
          case measure => omega
          case rel => exact ⟨k + 1, by go_num, by omega, ⟨HF.out.1, HF.out.2.1⟩, HF.out.2.2⟩
        · obtain rfl : k = m := by omega
          have HQ := Lib.hid (And.intro hV hk)
          have HM := Lib.hid hm
          clear hV hk hmr hmr0 hm e3 hsz H1
          go_wp2
          go_roundg (n - (i + 1))
          case measure => omega
          case rel => exact ⟨i + 1, by go_num, by omega, HQ.out.1.congr (fun j _ => by rw [cI_next, HM.out]), HQ.out.2⟩
    · obtain rfl : i = n := by omega
      have HQ := Lib.hid (And.intro hV hk)
      clear hV hk hp0 hV0 hpf hx h2 hp
      go_wp2_with fail
      go_end0
      exact ⟨rfl, HQ.out.1.congr (fun j hj => (cI_all c i j hj).symm), HQ.out.2⟩
end Go.Proofs.YtlalhinodmmgfaaGreat.BT

namespace Go.Proofs.YtlalhinodmmgfaaGreat.BT
open Go.RowKit

def upd {α : Type} (f : Nat → α) (i : Nat) (x : α) : Nat → α := fun j => if j = i then x else f j
theorem upd_same {α : Type} (f : Nat → α) (i : Nat) (x : α) : upd f i x i = x := by unfold upd; rw [if_pos rfl]
theorem upd_other {α : Type} (f : Nat → α) (i : Nat) (x : α) (j : Nat) (h : j ≠ i) : upd f i x j = f j := by unfold upd; rw [if_neg h]

/-- Lists that grow: the slice of them says vs, where they stand now is cur, each marked to its length; what vs says is read as it was. -/
structure GSt (w0 : World) (hv : Value) (n : Nat) (vs : Nat → Value) (ln : Nat → Nat) (cur : Nat → Value) (tl : Nat → Nat) (wr : World) : Prop where
  hd : wr.ownsRow 0 23 1 hv n ((List.range n).map vs)
  row : ∀ j, j < n → wr.ownsRow 0 9 1 (cur j) (tl j) (cellsT (marksT j 0 (tl j)))
  apart : ∀ i j, i < n → j < n → i ≠ j → ∀ g, (cur i).ownBlock = some g → (cur j).ownBlock ≠ some g
  apartH : ∀ j, j < n → ∀ g, hv.ownBlock = some g → (cur j).ownBlock ≠ some g
  old : ∀ j, j < n → ∀ b, (vs j).ownBlock = some b → ∀ q u, (cellsT (marksT j 0 (ln j)))[q]? = some u → wr.cell? ⟨b, q, none⟩ = some u
  from_ : ∀ j, j < n → ∀ g, (cur j).ownBlock = some g → (vs j).ownBlock = some g ∨ w0.heap.size ≤ g
  kept : Kept (vblocks n vs) w0 wr

/-- What stands fast of them. -/
structure GFix (w0 : World) (hv : Value) (n : Nat) (vs : Nat → Value) : Prop where
  apart : ∀ i j, i < n → j < n → i ≠ j → ∀ g, (vs i).ownBlock = some g → (vs j).ownBlock ≠ some g
  apartH : ∀ j, j < n → ∀ g, hv.ownBlock = some g → (vs j).ownBlock ≠ some g
  lt : ∀ j, j < n → ∀ g, (vs j).ownBlock = some g → g < w0.heap.size
  ltH : ∀ g, hv.ownBlock = some g → g < w0.heap.size

section
variable {w0 wr w2 : World} {hv : Value} {n : Nat} {vs cur : Nat → Value} {ln tl : Nat → Nat}

theorem GSt.of {c : Nat → List ByteArray} (h : VSt w0 hv n vs c) (hc : ∀ j, j < n → c j = marksT j 0 (ln j)) : GSt w0 hv n vs ln vs ln w0 ∧ GFix w0 hv n vs := by
  have hrow : ∀ j, j < n → w0.ownsRow 0 9 1 (vs j) (ln j) (cellsT (marksT j 0 (ln j))) := fun j hj => by
    have := h.row j hj
    rwa [hc j hj, length_marksT] at this
  refine ⟨⟨h.hd, hrow, h.apart, h.apartH, fun j hj b hb q u hu => ?_, fun j hj g hg => .inl hg, Kept.refl _ _⟩, ⟨h.apart, h.apartH, h.lt, h.ltH⟩⟩
  have h1 := (hrow j hj).cells hb q u hu
  rwa [Go.WideShapes.add_plain, Nat.zero_add] at h1

/-- Other blocks turn. -/
theorem GSt.keep {F : List Nat} (h : GSt w0 hv n vs ln cur tl wr) (f : GFix w0 hv n vs) (hk : Kept F wr w2) (hF : ∀ g ∈ F, w0.heap.size ≤ g ∧ ∀ j, j < n → (cur j).ownBlock ≠ some g) : GSt w0 hv n vs ln cur tl w2 := by
  have hz := h.kept.size
  refine ⟨row_kept h.hd hk (fun g hg hF' => ?_), fun j hj => row_kept (h.row j hj) hk (fun g hg hF' => (hF g hF').2 j hj hg), h.apart, h.apartH, fun j hj b hb q u hu => ?_, h.from_, h.kept.then_ hk (fun k hk => .inr (hF k hk).1)⟩
  · have := f.ltH g hg
    have := (hF g hF').1
    omega
  · have := f.lt j hj b hb
    exact (hk.cell (p := ⟨b, q, none⟩) (by show b < wr.heap.size; omega) (fun hF' => by have := (hF b hF').1; omega)).trans (h.old j hj b hb q u hu)
theorem GSt.below (h : GSt w0 hv n vs ln cur tl wr) (f : GFix w0 hv n vs) (hb : Below wr.heap.size wr w2) : GSt w0 hv n vs ln cur tl w2 := h.keep f (F := []) (Kept.of_below hb) (by simp)

/-- One list grows. -/
theorem GSt.grow {i m : Nat} {v' : Value} (h : GSt w0 hv n vs ln cur tl wr) (f : GFix w0 hv n vs) (hi : i < n) (hln : ln i ≤ tl i) (hg : Grown wr (cur i) v' w2) (hrow : w2.ownsRow 0 9 1 v' (tl i + m) (cellsT (marksT i 0 (tl i + m)))) :
    GSt w0 hv n vs ln (upd cur i v') (upd tl i (tl i + m)) w2 := by
  have hz := h.kept.size
  have hk := hg.1.1
  have hF : ∀ g ∈ (cur i).ownBlock.toList, (cur i).ownBlock = some g := fun g hg => by simpa using hg
  have hv' : ∀ g, v'.ownBlock = some g → (cur i).ownBlock = some g ∨ wr.heap.size ≤ g := fun g hg' => (hg.1.2 g (by simp [hg'])).imp (hF g) id
  have hlt : ∀ j, j < n → ∀ g, (cur j).ownBlock = some g → g < wr.heap.size := fun j hj g hg => ((h.row j hj).lt g hg).2
  have hltH : ∀ g, hv.ownBlock = some g → g < wr.heap.size := fun g hg => (h.hd.lt g hg).2
  refine ⟨row_kept h.hd hk (fun g hg hF' => h.apartH i hi g hg (hF g hF')), fun j hj => ?_, fun a b ha hb hab g hga hgb => ?_, fun j hj g hgh hgj => ?_, fun j hj b hb q u hu => ?_, fun j hj g hgj => ?_, ?_⟩
  · by_cases hji : j = i
    · subst hji
      rw [upd_same, upd_same]
      exact hrow
    · rw [upd_other _ _ _ _ hji, upd_other _ _ _ _ hji]
      exact row_kept (h.row j hj) hk (fun g hg hF' => h.apart j i hj hi hji g hg (hF g hF'))
  · by_cases hai : a = i
    · subst hai
      have hbi : b ≠ a := fun e => hab e.symm
      rw [upd_same] at hga
      rw [upd_other _ _ _ _ hbi] at hgb
      rcases hv' g hga with h1 | h1
      · exact h.apart a b ha hb hab g h1 hgb
      · have := hlt b hb g hgb
        omega
    · rw [upd_other _ _ _ _ hai] at hga
      by_cases hbi : b = i
      · subst hbi
        rw [upd_same] at hgb
        rcases hv' g hgb with h1 | h1
        · exact h.apart a b ha hb hab g hga h1
        · have := hlt a ha g hga
          omega
      · rw [upd_other _ _ _ _ hbi] at hgb
        exact h.apart a b ha hb hab g hga hgb
  · by_cases hji : j = i
    · subst hji
      rw [upd_same] at hgj
      rcases hv' g hgj with h1 | h1
      · exact h.apartH j hj g hgh h1
      · have := hltH g hgh
        omega
    · rw [upd_other _ _ _ _ hji] at hgj
      exact h.apartH j hj g hgh hgj
  · have hbl : b < wr.heap.size := by have := f.lt j hj b hb; omega
    by_cases hbc : (cur i).ownBlock = some b
    · -- the block that grows is the one that is read
      have hji : j = i := by
        rcases Nat.decEq j i with hne | he
        · rcases h.from_ i hi b hbc with h1 | h1
          · exact absurd h1 (f.apart j i hj hi hne b hb)
          · have := f.lt j hj b hb
            omega
        · exact he
      subst hji
      rcases hg.2 with h1 | h1
      · have hvb : v'.ownBlock = some b := h1.trans hbc
        have hu2 : (cellsT (marksT j 0 (tl j + m)))[q]? = some u := by
          have hql := (List.getElem?_eq_some_iff.1 hu).1
          have e : tl j + m = ln j + (tl j + m - ln j) := by omega
          rw [e, ← marksT_append, cellsT_append, List.getElem?_append_left hql]
          exact hu
        have h3 := hrow.cells hvb q u hu2
        rwa [Go.WideShapes.add_plain, Nat.zero_add] at h3
      · exact (h1.cell (p := ⟨b, q, none⟩) hbl).trans (h.old j hj b hb q u hu)
    · exact (hk.cell (p := ⟨b, q, none⟩) hbl (fun hF' => hbc (hF b hF'))).trans (h.old j hj b hb q u hu)
  · by_cases hji : j = i
    · subst hji
      rw [upd_same] at hgj
      rcases hv' g hgj with h1 | h1
      · exact h.from_ j hj g h1
      · exact .inr (by omega)
    · rw [upd_other _ _ _ _ hji] at hgj
      exact h.from_ j hj g hgj
  · exact h.kept.then_ hk (fun g hg => by
      rcases h.from_ i hi g (hF g hg) with h1 | h1
      · exact .inl (mem_vblocks.2 ⟨i, hi, h1⟩)
      · exact .inr h1)
end
end Go.Proofs.YtlalhinodmmgfaaGreat.BT

namespace Go.Proofs.YtlalhinodmmgfaaGreat.BT
open Go.RowKit

/-- While lists grow: the first i of them, grown, stand in a slice of their own. -/
structure GrI (w0 : World) (hv : Value) (n : Nat) (vs : Nat → Value) (ln : Nat → Nat) (cur : Nat → Value) (tl : Nat → Nat) (ov : Value) (i : Nat) (wr : World) : Prop where
  st : GSt w0 hv n vs ln cur tl wr
  out : wr.ownsRow w0.heap.size 23 1 ov i ((List.range i).map cur)
  apartO : ∀ j, j < n → ∀ g, ov.ownBlock = some g → (cur j).ownBlock ≠ some g
  len : ∀ j, j < n → ln j ≤ tl j

theorem marks_more (i z k : Nat) : cellsT (marksT i 0 z) ++ cellsT (marksT i z k) = cellsT (marksT i 0 (z + k)) := by
  have h := marksT_append i 0 z k
  rw [Nat.zero_add] at h
  rw [← cellsT_append, h]

section
variable {w0 wr w2 : World} {hv ov : Value} {n i : Nat} {vs cur : Nat → Value} {ln tl : Nat → Nat}

theorem GrI.start (h : GSt w0 hv n vs ln vs ln w0) : GrI w0 hv n vs ln vs ln (.slice none 0 0) 0 w0 := ⟨h, World.ownsRow_nil _ _ _ _, fun _ _ g hg => by simp [Value.ownBlock] at hg, fun _ _ => Nat.le_refl _⟩

theorem GrI.below (h : GrI w0 hv n vs ln cur tl ov i wr) (f : GFix w0 hv n vs) (hb : Below wr.heap.size wr w2) : GrI w0 hv n vs ln cur tl ov i w2 :=
  ⟨h.st.below f hb, row_raise (row_kept (F := []) (row_base0 h.out) (Kept.of_below hb) (fun g _ hF => by simp at hF)) (fun g hg => (h.out.lt g hg).1), h.apartO, h.len⟩

theorem GrI.more {k z m : Nat} {l v' : Value} (h : GrI w0 hv n vs ln cur tl ov i wr) (f : GFix w0 hv n vs) (hk : k < n) (hik : i ≤ k) (el : cur k = l) (hz : tl k = z) (hg : Grown wr l v' w2) (hrow : w2.ownsRow 0 9 1 v' (z + m) (cellsT (marksT k 0 z) ++ cellsT (marksT k z m))) :
    GrI w0 hv n vs ln (upd cur k v') (upd tl k (z + m)) ov i w2 := by
  subst el hz
  rw [marks_more] at hrow
  have hF : ∀ g ∈ (cur k).ownBlock.toList, (cur k).ownBlock = some g := fun g hg => by simpa using hg
  refine ⟨h.st.grow f hk (h.len k hk) hg hrow, ?_, fun j hj g hgo hgj => ?_, fun j hj => ?_⟩
  · have e : (List.range i).map (upd cur k v') = (List.range i).map cur := List.map_congr_left (fun j hj => upd_other _ _ _ _ (by have := List.mem_range.1 hj; omega))
    rw [e]
    exact row_raise (row_kept (row_base0 h.out) hg.1.1 (fun g hgo hF' => h.apartO k hk g hgo (hF g hF'))) (fun g hg => (h.out.lt g hg).1)
  · by_cases hjk : j = k
    · subst hjk
      rw [upd_same] at hgj
      rcases hg.1.2 g (by simp [hgj]) with h1 | h1
      · exact h.apartO j hj g hgo (hF g h1)
      · have := (h.out.lt g hgo).2
        omega
    · rw [upd_other _ _ _ _ hjk] at hgj
      exact h.apartO j hj g hgo hgj
  · by_cases hjk : j = k
    · subst hjk
      rw [upd_same]
      have := h.len j hj
      omega
    · rw [upd_other _ _ _ _ hjk]
      exact h.len j hj

theorem GrI.push {o : Obj} {u ov' : Value} (h : GrI w0 hv n vs ln cur tl ov i wr) (f : GFix w0 hv n vs) (hu : cur i = u) (hg : Grown (wr.alloc o) ov ov' w2) (hrow : w2.ownsRow 0 23 1 ov' (i + 1) ((List.range i).map cur ++ [u])) :
    GrI w0 hv n vs ln cur tl ov' (i + 1) w2 := by
  subst hu
  have hal : Below wr.heap.size wr (wr.alloc o) := (Below.refl _ _).alloc (Nat.le_refl _) _
  have hz := hal.size
  have hz0 := h.st.kept.size
  have ha := h.below f hal
  have hF : ∀ g ∈ ov.ownBlock.toList, ov.ownBlock = some g := fun g hg => by simpa using hg
  refine ⟨ha.st.keep f hg.1.1 (fun g hgF => ⟨(h.out.lt g (hF g hgF)).1, fun j hj => h.apartO j hj g (hF g hgF)⟩), row_raise ?_ (fun g hgo => ?_), fun j hj g hgo hgj => ?_, h.len⟩
  · rw [List.range_succ, List.map_append]
    exact hrow
  · rcases hg.1.2 g (by simp [hgo]) with h1 | h1
    · exact (h.out.lt g (hF g h1)).1
    · omega
  · rcases hg.1.2 g (by simp [hgo]) with h1 | h1
    · exact h.apartO j hj g (hF g h1) hgj
    · have := ((h.st.row j hj).lt g hgj).2
      omega

theorem GrI.congr {tl' : Nat → Nat} (h : GrI w0 hv n vs ln cur tl ov i wr) (e : ∀ j, j < n → tl' j = tl j) : GrI w0 hv n vs ln cur tl' ov i wr :=
  ⟨⟨h.st.hd, fun j hj => by rw [e j hj]; exact h.st.row j hj, h.st.apart, h.st.apartH, h.st.old, h.st.from_, h.st.kept⟩, h.out, h.apartO, fun j hj => by rw [e j hj]; exact h.len j hj⟩
end

/-- What growing leaves. -/
def GrowEndI (w : World) (hv : Value) (n : Nat) (vs : Nat → Value) (ln : Nat → Nat) (ov : Value) (w' : World) : Prop :=
  ∃ cur, GrI w hv n vs ln cur (fun j => ln j + 72) ov n w'

/-- What the rounds keep. -/
def GrAt (w : World) (hv : Value) (n : Nat) (vs : Nat → Value) (ln : Nat → Nat) (i k : Nat) (ov lv : Value) (wr : World) : Prop :=
  ∃ (cur : Nat → Value) (tl : Nat → Nat), lv = cur i ∧ GrI w hv n vs ln cur tl ov i wr ∧ (∀ j, j < i → tl j = ln j + 72) ∧ tl i = ln i + k ∧ (∀ j, i < j → tl j = ln j) ∧ ∀ j, i < j → cur j = vs j
section
variable {w wr w2 : World} {hv ov lv : Value} {n i k : Nat} {vs : Nat → Value} {ln : Nat → Nat}
theorem GrAt.below (h : GrAt w hv n vs ln i k ov lv wr) (f : GFix w hv n vs) (hb : Below wr.heap.size wr w2) : GrAt w hv n vs ln i k ov lv w2 := by
  obtain ⟨cur, tl, h1, h2, h3⟩ := h
  exact ⟨cur, tl, h1, h2.below f hb, h3⟩
theorem GrAt.row (h : GrAt w hv n vs ln i k ov lv wr) (hi : i < n) : wr.ownsRow 0 9 1 lv (ln i + k) (cellsT (marksT i 0 (ln i + k))) := by
  obtain ⟨cur, tl, rfl, h2, h3, h4, h5⟩ := h
  have := h2.st.row i hi
  rwa [h4] at this
theorem GrAt.more {z m : Nat} {v' : Value} (h : GrAt w hv n vs ln i k ov lv wr) (f : GFix w hv n vs) (hi : i < n) (hz : ln i + k = z) (hg : Grown wr lv v' w2) (hrow : w2.ownsRow 0 9 1 v' (z + m) (cellsT (marksT i 0 z) ++ cellsT (marksT i z m))) :
    GrAt w hv n vs ln i (k + m) ov v' w2 := by
  obtain ⟨cur, tl, h1, h2, h3, h4, h5, h6⟩ := h
  refine ⟨upd cur i v', upd tl i (z + m), (upd_same _ _ _).symm, h2.more f hi (Nat.le_refl _) h1.symm (h4.trans hz) hg hrow, fun j hj => ?_, ?_, fun j hj => ?_, fun j hj => ?_⟩
  · rw [upd_other _ _ _ _ (by omega)]
    exact h3 j hj
  · rw [upd_same]
    omega
  · rw [upd_other _ _ _ _ (by omega)]
    exact h5 j hj
  · rw [upd_other _ _ _ _ (by omega)]
    exact h6 j hj
theorem GrAt.out (h : GrAt w hv n vs ln i k ov lv wr) : ∃ news, wr.ownsRow 0 23 1 ov i news ∧ ∀ (o : Obj) (ov' : Value) (w2 : World), GFix w hv n vs → k = 72 → Grown (wr.alloc o) ov ov' w2 → w2.ownsRow 0 23 1 ov' (i + 1) (news ++ [lv]) → ∃ lv', GrAt w hv n vs ln (i + 1) 0 ov' lv' w2 ∧ (i + 1 < n → lv' = vs (i + 1)) := by
  obtain ⟨cur, tl, rfl, h2, h3, h4, h5, h6⟩ := h
  refine ⟨_, row_base0 h2.out, fun o ov' w2 f hk hg hrow => ⟨cur (i + 1), ⟨cur, tl, rfl, h2.push f rfl hg hrow, fun j hj => ?_, h5 _ (by omega), fun j hj => h5 j (by omega), fun j hj => h6 j (by omega)⟩, fun _ => h6 _ (by omega)⟩⟩
  rcases Nat.lt_or_ge j i with h | h
  · exact h3 j h
  · obtain rfl : j = i := by omega
    omega
theorem GrAt.kept (h : GrAt w hv n vs ln i k ov lv wr) : Kept (vblocks n vs) w wr := by
  obtain ⟨cur, tl, h1, h2, _⟩ := h
  exact h2.st.kept
theorem GrAt.hd (h : GrAt w hv n vs ln i k ov lv wr) : wr.ownsRow 0 23 1 hv n ((List.range n).map vs) := by
  obtain ⟨cur, tl, h1, h2, _⟩ := h
  exact h2.st.hd
theorem GrAt.end_ (h : GrAt w hv n vs ln n k ov lv wr) : GrowEndI w hv n vs ln ov wr := by
  obtain ⟨cur, tl, h1, h2, h3, _⟩ := h
  exact ⟨cur, h2.congr (fun j hj => (h3 j hj).symm)⟩
theorem GrAt.start (h : GSt w hv n vs ln vs ln w) : GrAt w hv n vs ln 0 0 (.slice none 0 0) (vs 0) w := ⟨vs, ln, rfl, GrI.start h, fun j hj => absurd hj (by omega), rfl, fun _ _ => rfl, fun _ _ => rfl⟩
end

set_option maxRecDepth 100000 in
set_option maxHeartbeats 4000000 in
theorem growTexts_any {w : World} {p : Nat} {cs : Array Value} {hv : Value} {n : Nat} {vs : Nat → Value} {ln : Nat → Nat} (hp : Has w p 39 cs) (h2 : cs[0]? = some hv) (hG : GSt w hv n vs ln vs ln w) (hF : GFix w hv n vs) (hpn : ∀ j, j < n → (vs j).ownBlock ≠ some p) (hn : n ≤ 250) (hx : ∀ j, j < n → ln j ≤ 1000000) :
    Calls Tryz.prog 56 #[.pointer (some ⟨p, 0, none⟩)] w fun e w' => ∃ ov, e = .returned ov ∧ GrowEndI w hv n vs ln ov w' := by
  obtain ⟨A1, c1, rfl⟩ := row_form hG.hd
  have hpf : p ∉ vblocks n vs := fun h => by obtain ⟨j, hj, hg⟩ := mem_vblocks.1 h; exact hpn j hj hg
  obtain ⟨i0, hi0, hz0, hz1, hz2⟩ := info_parts Tryz.infoStr
  obtain ⟨i1, hj0, hy0, hy1, hy2⟩ := info_parts Tryz.infoInts
  have HI := Lib.hid (And.intro hi0 (And.intro hz0 (And.intro hz1 hz2)))
  have HJ := Lib.hid (And.intro hj0 (And.intro hy0 (And.intro hy1 hy2)))
  have HP := Lib.hid (And.intro hp (And.intro hG (And.intro hF (And.intro hpf (And.intro hx h2)))))
  clear hp h2 hG hF hpn hx hpf hi0 hz0 hz1 hz2 hj0 hy0 hy1 hy2
  go_enter Tryz.func56, Tryz.ntmps56
  go_wp2_with fail
  go_loopg [3, 4] n (fun g ov iv wr => ∃ (i : Nat) (lv : Value), iv = .int .i64 i ∧ i + g = n ∧ GrAt w (.slice A1 n c1) n vs ln i 0 ov lv wr ∧ (i < n → lv = vs i))
  case atStart => exact ⟨0, _, rfl, by omega, GrAt.start HP.out.2.1, fun _ => rfl⟩
  case round =>
    obtain ⟨i, lv, rfl, hig, hG, hlv⟩ := hrel
    obtain ⟨hp0, _, hF, hpf, hx, h2⟩ := HP.out
    have hp := hp0.kept hG.kept hpf
    have q1 : wr.cell? ⟨p, 0, none⟩ = some (.slice A1 n c1) := (hp.cell 0).trans h2
    by_cases hlt : i < n
    · have hlv := hlv hlt
      obtain ⟨g1, c1', e1, hle1, _⟩ := row_some hG.hd (by omega)
      cases e1
      have hri := hG.row hlt
      have hxi := hx i hlt
      obtain ⟨m, hm⟩ : ∃ m, ln i = m := ⟨_, rfl⟩
      rw [hm] at hri hxi
      obtain ⟨A3, c3, e3⟩ := row_form hri
      have q2 : wr.cell? ⟨g1, i, none⟩ = some (.slice A3 m c3) := by
        rw [hG.hd.cellAt i (by omega)]
        simp [hlt, ← hlv, e3]
      have HB := Lib.hid (And.intro hG (And.intro hm e3))
      have HX := Lib.hid hxi
      have i0 : (0 : Int) ≤ i := by omega
      have i1 : (i : Int) < n := by omega
      clear hp0 hF hpf hx h2 hG hp hri hm e3 hxi hlv
      go_wp2_with fail
      go_loopg [5, 6] 12 (fun g lv' kv ws => ∃ k : Nat, kv = .int .i64 k ∧ k + g = 12 ∧ GrAt w (.slice (some ⟨g1, 0, none⟩) n c1) n vs ln i k u3 lv' ws)
      case atStart => exact ⟨0, rfl, by omega, by
        have := HB.out.1
        rwa [HB.out.2.2] at this⟩
      case round =>
        obtain ⟨k, rfl, hkg, hG⟩ := hrel
        obtain ⟨hG0, hm, _⟩ := HB.out
        have hri := hG.row hlt
        obtain ⟨z, hz⟩ : ∃ z, m + k = z := ⟨_, rfl⟩
        rw [hm, hz] at hri
        obtain ⟨A5, c5, rfl⟩ := row_form hri
        have hzx : z ≤ 1000012 := by have := HX.out; omega
        by_cases hltk : k < 12
        · have hmk := markTexts_any i z 1 wr (by omega) (by omega) (by omega)
          have HR := Lib.hid (And.intro hG (And.intro hri (And.intro hm hz)))
          have HZ := Lib.hid hzx
          have b0 : (k : Int) < 12 := by omega
          clear hG hri hm hz hzx q1 q2 hG0
          go_wp2_with fail
          refine hmk.mono ?_
          rintro e w1 ⟨mv, rfl, hmr, hb1⟩
          obtain ⟨hG, hri, hm, hz⟩ := HR.out
          obtain ⟨hi0, hz0, hz1, hz2⟩ := HI.out
          have hzx := HZ.out
          have hG1 := hG.below HP.out.2.2.1 hb1
          have hri1 := hG1.row hlt
          rw [hm, hz] at hri1
          have hmr0 := row_base0 hmr
          have HS := Lib.hid (And.intro hG1 (And.intro hm hz))
          have hone : ∀ y ∈ cellsT (marksT i z 1), y.oneCell' = true := text_one
          clear hG hri hm hz hG1 hmr hb1 hmk
          go_wp2_with (at_builtin; refine wpList_append_row rfl _ _ 23 9 _ (.string ⟨#[]⟩) 1 16 Tryz.underlying23 hi0 hz0 hz1 hz2 rfl (by decide) rfl _ (.slice A5 z c5) z _ rfl hri1 mv 1 _ rfl hmr0 hone (by omega) (by unfold maxLen; omega) (by omega) ?_; intro v' w2 hown2 hgn2)
          go_roundg (12 - (k + 1))
          case measure => omega
          case rel => exact ⟨k + 1, by go_num, by omega, HS.out.1.more HP.out.2.2.1 hlt (by rw [HS.out.2.1, HS.out.2.2]) hgn2 hown2⟩
        · obtain rfl : k = 12 := by omega
          have hmk := markTexts_any i z 60 wr (by omega) (by omega) (by omega)
          have HR := Lib.hid (And.intro hG (And.intro hri (And.intro hm hz)))
          have HZ := Lib.hid hzx
          clear hG hri hm hz hzx q1 q2 hG0
          go_wp2_with fail
          refine hmk.mono ?_
          rintro e w1 ⟨mv, rfl, hmr, hb1⟩
          obtain ⟨hG, hri, hm, hz⟩ := HR.out
          obtain ⟨hi0, hz0, hz1, hz2⟩ := HI.out
          have hzx := HZ.out
          have hG1 := hG.below HP.out.2.2.1 hb1
          have hri1 := hG1.row hlt
          rw [hm, hz] at hri1
          have hmr0 := row_base0 hmr
          have HS := Lib.hid (And.intro hG1 (And.intro hm hz))
          have hone : ∀ y ∈ cellsT (marksT i z 60), y.oneCell' = true := text_one
          clear hG hri hm hz hG1 hmr hb1 hmk
          go_wp2_with (at_builtin; first
            | (refine wpList_append_row rfl _ _ 23 9 _ (.string ⟨#[]⟩) 1 16 Tryz.underlying23 hi0 hz0 hz1 hz2 rfl (by decide) rfl _ (.slice A5 z c5) z _ rfl hri1 mv 60 _ rfl hmr0 hone (by omega) (by unfold maxLen; omega) (by omega) ?_; intro v' w2 hown2 hgn2; obtain ⟨A6, c6, rfl⟩ := row_form hown2; obtain ⟨news, hout, hpush⟩ := (HS.out.1.more HP.out.2.2.1 hlt (by rw [HS.out.2.1, HS.out.2.2]) hgn2 hown2).out; have hra := World.ownsRow.alloc hout (.cells #[.slice A6 (z + 60) c6] 23); have HT := Lib.hid hpush; clear hown2 hgn2 hout hpush hri1 hmr0 hone; obtain ⟨hj0, hy0, hy1, hy2⟩ := HJ.out)
            | (refine wpList_append_keeps rfl _ _ 27 23 _ (.slice none 0 0) 1 24 Tryz.underlying27 hj0 hy0 hy1 hy2 rfl (by decide) rfl _ u3 i _ rfl hra ⟨w2.heap.size, 0, none⟩ 1 1 rfl [.slice A6 (z + 60) c6] rfl (cell_one_new _ _ _) (by intro u hu; simp at hu; subst hu; rfl) (by omega) (by unfold maxLen; omega) (by omega) ?_; intro ov' w3 hown3 hgn3))
          obtain ⟨lv', hG', hlv'⟩ := HT.out _ ov' _ HP.out.2.2.1 trivial hgn3 hown3
          go_roundg (n - (i + 1))
          case measure => omega
          case rel => exact ⟨i + 1, lv', by go_num, by omega, hG', hlv'⟩
    · obtain rfl : i = n := by omega
      have HQ := Lib.hid hG
      clear hlv hp0 hF hpf hx h2 hp hG
      go_wp2_with fail
      go_ret
      exact ⟨_, rfl, HQ.out.end_⟩
end Go.Proofs.YtlalhinodmmgfaaGreat.BT

namespace Go.Proofs.YtlalhinodmmgfaaGreat.BT
open Go.RowKit

set_option maxRecDepth 100000 in
set_option maxHeartbeats 2000000 in
theorem markedTexts_any {w : World} {ov : Value} {n : Nat} {us : Nat → Value} {tl : Nat → Nat} (ho : ReadsL w ov n ((List.range n).map us)) (hr : ∀ j, j < n → ReadsL w (us j) (tl j) (cellsT (marksT j 0 (tl j)))) (hn : n ≤ 250) (hx : ∀ j, j < n → tl j ≤ 1000000) :
    Calls Tryz.prog 67 #[ov] w fun e w' => e = .returned (.bool true) ∧ Below w.heap.size w w' := by
  obtain ⟨A1, c1, rfl, ho⟩ := ho
  have HP := Lib.hid (And.intro ho (And.intro hr hx))
  clear ho hr hx
  go_enter Tryz.func67, Tryz.ntmps67
  go_wp2_with fail
  go_loopg [3] n (fun g i wr => ∃ k : Nat, i = .int .i64 k ∧ k + g = n ∧ Below w.heap.size w wr)
  case atStart => exact ⟨0, rfl, by omega, Below.refl _ _⟩
  case round =>
    obtain ⟨k, rfl, hkg, hbw⟩ := hrel
    obtain ⟨ho, hr, hx⟩ := HP.out
    by_cases hlt : k < n
    · obtain ⟨g1, rfl, hg1, hoc⟩ := ho (by omega)
      have hrk := (hr k hlt).below hbw
      have hxk := hx k hlt
      obtain ⟨A3, c3, e3, h3⟩ := hrk
      have q2 : wr.cell? ⟨g1, k, none⟩ = some (.slice A3 (tl k) c3) := by
        refine (hbw.cell (p := ⟨g1, k, none⟩) hg1).trans (hoc k _ ?_)
        simp [hlt, e3]
      have hrk : ReadsL wr (.slice A3 (tl k) c3) (tl k) (cellsT (marksT k 0 (tl k))) := ⟨A3, c3, rfl, h3⟩
      clear e3 h3
      have hlg : g1 < wr.heap.size := Nat.lt_of_lt_of_le hg1 hbw.size
      generalize tl k = m at *
      have hmk := markTexts_any k 0 m wr.drew (by omega) (by omega) (by omega)
      have hS : wr.drew.cell? ⟨g1, k, none⟩ = some (.slice A3 m c3) := q2
      have HB := Lib.hid (And.intro hbw (And.intro (show ReadsL wr.drew (.slice A3 m c3) m (cellsT (marksT k 0 m)) from hrk.kept (F := []) (Kept.refl _ _).drew (fun g _ hF => by simp at hF)) hxk))
      have HM := Lib.hid hmk
      have k0 : (0 : Int) ≤ k := by omega
      have k1 : (k : Int) < n := by omega
      have hm1 : (m : Int) ≤ 1000000 := by omega
      clear hr hx q2 hbw hmk hrk hxk hg1 hoc ho
      go_wp2_with fail
      refine wp_region_tills (fun w' => w'.cell? ⟨g1, k, none⟩ = some (.slice A3 m c3)) 11 (by kernel_rfl) ?_
      refine till_takeAt 10 (i := 0) (v := .slice (some ⟨g1, 0, none⟩) n c1) rfl rfl (by kernel_rfl) (by kernel_rfl) (by kernel_rfl) (by kernel_rfl) (by kernel_rfl) (fun _ _ _ h => h) (Or.inl ⟨by rfl, fun w' hw' => by obtain q1 := hw'; go_simp⟩) hS ?_
      simp only [List.setIfInBounds_toArray, List.set_cons_zero, List.set_cons_succ]
      refine till_takeAt 11 (i := 1) (v := .int .i64 k) rfl rfl (by kernel_rfl) (by kernel_rfl) (by kernel_rfl) (by kernel_rfl) (by kernel_rfl) (fun _ _ _ h => h) (Or.inl ⟨by rfl, fun w' hw' => by obtain q1 := hw'; go_simp⟩) hS ?_
      simp only [List.setIfInBounds_toArray, List.set_cons_zero, List.set_cons_succ]
      refine till_takeAt 12 (i := 2) (v := .pointer (some ⟨g1, k, none⟩)) rfl rfl (by kernel_rfl) (by kernel_rfl) (by kernel_rfl) (by kernel_rfl) (by kernel_rfl) (fun _ _ _ h => h) (Or.inl ⟨by rfl, fun w' hw' => by obtain q1 := hw'; go_simp⟩) hS ?_
      simp only [List.setIfInBounds_toArray, List.set_cons_zero, List.set_cons_succ]
      refine till_takeAt 13 (i := 3) (v := .slice A3 m c3) rfl rfl (by kernel_rfl) (by kernel_rfl) (by kernel_rfl) (by kernel_rfl) (by kernel_rfl) (fun _ _ _ h => h) (Or.inl ⟨by rfl, fun w' hw' => by obtain q1 := hw'; go_simp⟩) hS ?_
      simp only [List.setIfInBounds_toArray, List.set_cons_zero, List.set_cons_succ]
      refine till_takeAt 14 (i := 4) (v := .int .i64 k) rfl rfl (by kernel_rfl) (by kernel_rfl) (by kernel_rfl) (by kernel_rfl) (by kernel_rfl) (fun _ _ _ h => h) (Or.inl ⟨by rfl, fun w' hw' => by obtain q1 := hw'; go_simp⟩) hS ?_
      simp only [List.setIfInBounds_toArray, List.set_cons_zero, List.set_cons_succ]
      refine till_takeAt 15 (i := 5) (v := .slice (some ⟨g1, 0, none⟩) n c1) rfl rfl (by kernel_rfl) (by kernel_rfl) (by kernel_rfl) (by kernel_rfl) (by kernel_rfl) (fun _ _ _ h => h) (Or.inl ⟨by rfl, fun w' hw' => by obtain q1 := hw'; go_simp⟩) hS ?_
      simp only [List.setIfInBounds_toArray, List.set_cons_zero, List.set_cons_succ]
      refine till_takeAt 16 (i := 6) (v := .int .i64 k) rfl rfl (by kernel_rfl) (by kernel_rfl) (by kernel_rfl) (by kernel_rfl) (by kernel_rfl) (fun _ _ _ h => h) (Or.inl ⟨by rfl, fun w' hw' => by obtain q1 := hw'; go_simp⟩) hS ?_
      simp only [List.setIfInBounds_toArray, List.set_cons_zero, List.set_cons_succ]
      refine till_takeAt 17 (i := 7) (v := .pointer (some ⟨g1, k, none⟩)) rfl rfl (by kernel_rfl) (by kernel_rfl) (by kernel_rfl) (by kernel_rfl) (by kernel_rfl) (fun _ _ _ h => h) (Or.inl ⟨by rfl, fun w' hw' => by obtain q1 := hw'; go_simp⟩) hS ?_
      simp only [List.setIfInBounds_toArray, List.set_cons_zero, List.set_cons_succ]
      refine till_takeAt 18 (i := 8) (v := .slice A3 m c3) rfl rfl (by kernel_rfl) (by kernel_rfl) (by kernel_rfl) (by kernel_rfl) (by kernel_rfl) (fun _ _ _ h => h) (Or.inl ⟨by rfl, fun w' hw' => by obtain q1 := hw'; go_simp⟩) hS ?_
      simp only [List.setIfInBounds_toArray, List.set_cons_zero, List.set_cons_succ]
      refine till_takeAt 19 (i := 9) (v := .int .i64 m) rfl rfl (by kernel_rfl) (by kernel_rfl) (by kernel_rfl) (by kernel_rfl) (by kernel_rfl) (fun _ _ _ h => h) (Or.inl ⟨by rfl, fun w' hw' => by obtain q1 := hw'; go_simp⟩) hS ?_
      simp only [List.setIfInBounds_toArray, List.set_cons_zero, List.set_cons_succ]
      refine till_one (i := 10) (by kernel_rfl) rfl rfl (fun K hK => ?_)
      go_simp
      refine HM.out.mono ?_
      rintro e w1 ⟨mv, rfl, hmr, hb1⟩
      refine hK _ _ ⟨fun _ => (hb1.cell (p := ⟨g1, k, none⟩) hlg).trans hS, ?_⟩
      clear hK K hS hlg
      obtain ⟨hbw, hrk, hxk⟩ := HB.out
      have hb1' : Below wr.drew.heap.size wr.drew w1 := hb1
      have hrk1 := hrk.below hb1'
      have hsm := sameTexts_any _ _ (marksT k 0 m) w1 (ReadsL.reads1 (by rw [show (List.map Value.string (marksT k 0 m)).length = m by simp [length_marksT]]; exact hrk1)) (row_reads1 hmr) (by rw [length_marksT]; exact hxk)
      have HB1 := Lib.hid (show Below w.heap.size w w1 from hbw.trans (Below.mono ⟨hb1.os, hb1.tape, hb1.output, hb1.size, hb1.block⟩ hbw.size))
      clear hbw hrk hxk hb1 hb1' hrk1 hmr
      refine till_one (i := 11) (by kernel_rfl) rfl rfl (fun K hK => ?_)
      go_simp
      refine hsm.mono ?_
      rintro e w2 ⟨rfl, hb2⟩
      refine hK _ _ ⟨fun h => absurd h (by omega), ?_⟩
      clear hK K
      have HB2 := Lib.hid (HB1.out.trans (hb2.mono HB1.out.size))
      clear hsm hb2
      refine till_one (i := 12) (by kernel_rfl) rfl rfl (fun K hK => ?_)
      go_simp
      refine hK _ _ ⟨fun h => absurd h (by omega), till_done (by kernel_rfl) ?_ _⟩
      clear hK K
      go_wp2
      go_roundg (n - (k + 1))
      case measure => omega
      case rel => exact ⟨k + 1, by go_num, by omega, HB2.out⟩
    · obtain rfl : k = n := by omega
      have HB := Lib.hid hbw
      clear ho hr hx hbw
      go_wp2_with fail
      go_ret
      exact ⟨rfl, HB.out⟩
end Go.Proofs.YtlalhinodmmgfaaGreat.BT

namespace Go.Proofs.YtlalhinodmmgfaaGreat.BT
open Go.RowKit

def vsI (L : List KeptI) : Nat → Value := fun j => (L[j]?.map KeptI.v).getD (.slice none 0 0)
def csI (L : List KeptI) : Nat → List ByteArray := fun j => (L[j]?.map KeptI.xs).getD []
theorem vsI_map (L : List KeptI) : (List.range L.length).map (vsI L) = L.map KeptI.v := by
  refine List.ext_getElem? fun j => ?_
  unfold vsI
  rcases Nat.lt_or_ge j L.length with h | h
  · simp [h]
  · simp [h]
theorem vsI_at {L : List KeptI} {j : Nat} (h : j < L.length) : vsI L j = L[j].v := by simp [vsI, h]
theorem csI_at {L : List KeptI} {j : Nat} (h : j < L.length) : csI L j = L[j].xs := by simp [csI, h]

/-- The blocks of the lists and of the slice of them. -/
def vfoot (hv : Value) (n : Nat) (vs : Nat → Value) : List Nat := hv.ownBlock.toList ++ vblocks n vs
theorem mem_vfoot {hv : Value} {n : Nat} {vs : Nat → Value} {g : Nat} : g ∈ vfoot hv n vs ↔ hv.ownBlock = some g ∨ ∃ j, j < n ∧ (vs j).ownBlock = some g := by
  unfold vfoot
  rw [List.mem_append, mem_vblocks]
  simp

theorem vfoot_sub (hv hc : Value) (L : List KeptI) : ∀ g ∈ vfoot hv L.length (vsI L), g ∈ foot (shelfI hv hc L) := by
  intro g hg
  refine mem_foot.2 ?_
  rcases mem_vfoot.1 hg with h | ⟨j, hj, h⟩
  · exact ⟨⟨23, 1, hv, L.length, L.map KeptI.v⟩, by simp [shelfI], h⟩
  · rw [vsI_at hj] at h
    exact ⟨L[j].rv, by simp only [shelfI, List.mem_cons, List.mem_append]; exact .inr (.inr (.inl (List.mem_map_of_mem (List.getElem_mem hj)))), h⟩

/-- A shelf's lists lie side by side. -/
theorem VSt.of {w : World} {hv hc : Value} {L : List KeptI} (hR : Rows w (shelfI hv hc L)) : VSt w hv L.length (vsI L) (csI L) := by
  have hap := hR.apart
  refine ⟨?_, fun j hj => ?_, fun i j hi hj hij g hg hg' => ?_, fun j hj g hg hg' => ?_⟩
  · rw [vsI_map]
    exact hR.all ⟨23, 1, hv, L.length, L.map KeptI.v⟩ (by simp [shelfI])
  · rw [vsI_at hj, csI_at hj]
    exact hR.all L[j].rv (by simp only [shelfI, List.mem_cons, List.mem_append]; exact .inr (.inr (.inl (List.mem_map_of_mem (List.getElem_mem hj)))))
  · rw [vsI_at hi] at hg
    rw [vsI_at hj] at hg'
    have h1 : (foot (L.map KeptI.rv)).Nodup := by
      unfold shelfI at hap
      rw [foot_cons, foot_cons, foot_append] at hap
      exact (List.nodup_append.1 (List.nodup_append.1 (List.nodup_append.1 hap).2.1).2.1).1
    unfold foot at h1
    have h2 := (List.pairwise_flatMap.1 h1).2
    have h3 := List.pairwise_iff_getElem.1 h2
    rcases Nat.lt_or_gt_of_ne hij with h | h
    · exact h3 i j (by simpa using hi) (by simpa using hj) h g (by simpa [RowS.foot, KeptI.rv] using hg) g (by simpa [RowS.foot, KeptI.rv] using hg') rfl
    · exact h3 j i (by simpa using hj) (by simpa using hi) h g (by simpa [RowS.foot, KeptI.rv] using hg') g (by simpa [RowS.foot, KeptI.rv] using hg) rfl
  · rw [vsI_at hj] at hg'
    unfold shelfI at hap
    rw [foot_cons] at hap
    refine (List.nodup_append.1 hap).2.2 g (by simp [RowS.foot, hg]) g ?_ rfl
    rw [foot_cons, foot_append]
    exact List.mem_append.2 (.inr (List.mem_append.2 (.inl (mem_foot.2 ⟨L[j].rv, List.mem_map_of_mem (List.getElem_mem hj), hg'⟩))))

/-- What is read behind growing: the lists and the longer ones, each marked; none of their blocks is of F. -/
def RdsI (w : World) (F : List Nat) (hv ov : Value) : Prop :=
  ∃ (n : Nat) (vs cur : Nat → Value) (ln : Nat → Nat), n ≤ 250 ∧ (∀ j, j < n → ln j ≤ 900000) ∧ ReadsL w hv n ((List.range n).map vs) ∧ ReadsL w ov n ((List.range n).map cur) ∧
    (∀ j, j < n → ReadsL w (vs j) (ln j) (cellsT (marksT j 0 (ln j)))) ∧ (∀ j, j < n → ReadsL w (cur j) (ln j + 72) (cellsT (marksT j 0 (ln j + 72)))) ∧
    (∀ g, hv.ownBlock = some g → g ∉ F) ∧ (∀ g, ov.ownBlock = some g → g ∉ F) ∧ (∀ j, j < n → ∀ g, (vs j).ownBlock = some g → g ∉ F) ∧ ∀ j, j < n → ∀ g, (cur j).ownBlock = some g → g ∉ F
section
variable {w w' : World} {F : List Nat} {hv ov : Value}
theorem RdsI.kept (h : RdsI w F hv ov) (hk : Kept F w w') : RdsI w' F hv ov := by
  obtain ⟨n, vs, cur, ln, h1, h2, h3, h4, h5, h6, h7, h8, h9, h10⟩ := h
  exact ⟨n, vs, cur, ln, h1, h2, h3.kept hk h7, h4.kept hk h8, fun j hj => (h5 j hj).kept hk (h9 j hj), fun j hj => (h6 j hj).kept hk (h10 j hj), h7, h8, h9, h10⟩
theorem RdsI.below (h : RdsI w F hv ov) (hb : Below w.heap.size w w') : RdsI w' F hv ov := h.kept (Kept.of_below hb)
theorem RdsI.none_ (h : RdsI w F hv ov) : RdsI w [] hv ov := by
  obtain ⟨n, vs, cur, ln, h1, h2, h3, h4, h5, h6, _⟩ := h
  exact ⟨n, vs, cur, ln, h1, h2, h3, h4, h5, h6, by simp, by simp, by simp, by simp⟩
theorem RdsI.first (h : RdsI w F hv ov) : Calls Tryz.prog 67 #[hv] w fun e w' => e = .returned (.bool true) ∧ Below w.heap.size w w' := by
  obtain ⟨n, vs, cur, ln, h1, h2, h3, h4, h5, h6, _⟩ := h
  exact markedTexts_any h3 h5 h1 (fun j hj => by have := h2 j hj; omega)
theorem RdsI.second (h : RdsI w F hv ov) : Calls Tryz.prog 67 #[ov] w fun e w' => e = .returned (.bool true) ∧ Below w.heap.size w w' := by
  obtain ⟨n, vs, cur, ln, h1, h2, h3, h4, h5, h6, _⟩ := h
  exact markedTexts_any (tl := fun j => ln j + 72) h4 h6 h1 (fun j hj => by have := h2 j hj; show ln j + 72 ≤ _; omega)

theorem RdsI.of {n : Nat} {vs : Nat → Value} {ln : Nat → Nat} (hn : n ≤ 250) (hx : ∀ j, j < n → ln j ≤ 900000) (h0 : ∀ j, j < n → w.ownsRow 0 9 1 (vs j) (ln j) (cellsT (marksT j 0 (ln j)))) (hE : GrowEndI w hv n vs ln ov w') (hF : ∀ g ∈ F, g < w.heap.size ∧ g ∉ vfoot hv n vs) : RdsI w' F hv ov := by
  obtain ⟨cur, hG⟩ := hE
  have hz := hG.st.kept.size
  refine ⟨n, vs, cur, ln, hn, hx, ReadsL.of hG.st.hd, ReadsL.of hG.out, fun j hj => ?_, fun j hj => ReadsL.of (hG.st.row j hj), fun g hg hF' => (hF g hF').2 (mem_vfoot.2 (.inl hg)), fun g hg hF' => ?_, fun j hj g hg hF' => (hF g hF').2 (mem_vfoot.2 (.inr ⟨j, hj, hg⟩)), fun j hj g hg hF' => ?_⟩
  · obtain ⟨A, c, e, h1⟩ := ReadsL.of (h0 j hj)
    refine ⟨A, c, e, fun hp => ?_⟩
    obtain ⟨g, rfl, hg, _⟩ := h1 hp
    exact ⟨g, rfl, by omega, hG.st.old j hj g (by rw [e]; rfl)⟩
  · have := (hG.out.lt g hg).1
    have := (hF g hF').1
    omega
  · rcases hG.st.from_ j hj g hg with h | h
    · exact (hF g hF').2 (mem_vfoot.2 (.inr ⟨j, hj, h⟩))
    · have := (hF g hF').1
      omega
end
end Go.Proofs.YtlalhinodmmgfaaGreat.BT
