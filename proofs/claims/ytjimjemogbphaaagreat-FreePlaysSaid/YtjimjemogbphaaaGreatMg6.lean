/-
  The statements' book, of lists of numbers: one more list is kept, with a copy.
-/
import Derived.Test.YtjimjemogbphaaaGreatMg5
namespace Go.Proofs.YtjimjemogbphaaaGreat
open Go.RowKit

/-- A list that is kept: its slice, its copy's, what stood in it. -/
structure KeptI where
  v : Value
  c : Value
  xs : List Int
def KeptI.rv (x : KeptI) : RowS := ⟨3, 1, x.v, x.xs.length, cellsI x.xs⟩
def KeptI.rc (x : KeptI) : RowS := ⟨3, 1, x.c, x.xs.length, cellsI x.xs⟩
/-- All rows of a shelf: the slice of the lists, that of the copies, the lists, the copies. -/
def shelfI (hv hc : Value) (L : List KeptI) : List RowS :=
  ⟨22, 1, hv, L.length, L.map KeptI.v⟩ :: ⟨22, 1, hc, L.length, L.map KeptI.c⟩ :: (L.map KeptI.rv ++ L.map KeptI.rc)

theorem shelfI_snoc (hv hc : Value) (L : List KeptI) (x : KeptI) :
    (⟨22, 1, hv, L.length + 1, L.map KeptI.v ++ [x.v]⟩ :: ⟨22, 1, hc, L.length + 1, L.map KeptI.c ++ [x.c]⟩ :: (L.map KeptI.rv ++ L.map KeptI.rc) ++ [x.rv, x.rc]).Perm (shelfI hv hc (L ++ [x])) := by
  unfold shelfI
  simp only [List.map_append, List.map_cons, List.map_nil, List.length_append, List.length_cons, List.length_nil, List.cons_append]
  refine ((List.Perm.cons _) ((List.Perm.cons _) ?_))
  rw [List.append_assoc, List.append_assoc]
  refine List.Perm.append_left _ ?_
  exact (List.perm_append_comm (l₁ := L.map KeptI.rc) (l₂ := [x.rv, x.rc])).trans ((List.Perm.cons _) (List.perm_append_comm (l₁ := [x.rc])))

theorem Tryz.infoInts : (Tryz.prog.info? 22).map (fun i => (i.zero, i.size, i.bytes)) = some (some (.slice none 0 0), 1, 24) := by kernel_rfl

/-- What keeping leaves. -/
def KeepEndI (p : Nat) (cs : Array Value) (hv hc : Value) (L : List KeptI) (v : Value) (xs : List Int) (w w' : World) : Prop :=
  ∃ hv' hc' c, Has w' p 61 ((cs.setIfInBounds 2 hv').setIfInBounds 3 hc') ∧ Rows w' (shelfI hv' hc' (L ++ [⟨v, c, xs⟩])) ∧ p ∉ foot (shelfI hv' hc' (L ++ [⟨v, c, xs⟩])) ∧ Kept (p :: foot (shelfI hv hc L)) w w' ∧
    ∀ k ∈ foot (shelfI hv' hc' (L ++ [⟨v, c, xs⟩])), k ∈ foot (shelfI hv hc L) ∨ v.ownBlock = some k ∨ w.heap.size ≤ k

theorem row_one_cell {w : World} {base : Nat} {e : TypeId} {k : Nat} {v : Value} {n : Nat} {xs : List Value} (h : w.ownsRow base e k v n xs) : v.oneCell' = true := by
  obtain ⟨A, c, rfl⟩ := row_form h
  rfl

/-- A store into a block that is none of the rows'. -/
theorem Rows.past {w : World} {R : List RowS} (h : Rows w R) {p : Addr} (hp : p.block ∉ foot R) (u : Value) : Rows (w.setCell p u) R :=
  h.kept (F := [p.block]) ((Kept.refl _ _).setCell (by simp) u) (fun g hg e => by simp at e; subst e; exact hp hg)

theorem foot_turn {w w' : World} {r r' : RowS} {R : List RowS} (hg : Goes r.foot w r'.foot w') : ∀ k ∈ foot (r' :: R), k ∈ foot (r :: R) ∨ w.heap.size ≤ k := by
  intro k hk
  rw [foot_cons] at hk ⊢
  rcases List.mem_append.1 hk with h | h
  · exact (hg.2 k h).imp (fun h => List.mem_append.2 (.inl h)) id
  · exact .inl (List.mem_append.2 (.inr h))
theorem foot_perm {R Q : List RowS} (h : R.Perm Q) {k : Nat} : k ∈ foot R ↔ k ∈ foot Q := (h.flatMap_right _).mem_iff

/-- What stands when the list itself is in, and its copy not yet. -/
structure MidI (p : Nat) (cs : Array Value) (hv' hc : Value) (F0 : List Nat) (L : List KeptI) (v : Value) (xs : List Int) (w W : World) : Prop where
  has : Has W p 61 (cs.setIfInBounds 2 hv')
  rows : Rows W (⟨22, 1, hv', L.length + 1, L.map KeptI.v ++ [v]⟩ :: ⟨22, 1, hc, L.length, L.map KeptI.c⟩ :: (L.map KeptI.rv ++ L.map KeptI.rc))
  from_ : ∀ k ∈ foot (⟨22, 1, hv', L.length + 1, L.map KeptI.v ++ [v]⟩ :: ⟨22, 1, hc, L.length, L.map KeptI.c⟩ :: (L.map KeptI.rv ++ L.map KeptI.rc)), k ∈ F0 ∨ w.heap.size ≤ k
  kept : Kept (p :: F0) w W
  row : W.ownsRow 0 3 1 v xs.length (cellsI xs)

theorem MidI.of {p : Nat} {cs : Array Value} {hv hv' hc : Value} {L : List KeptI} {v : Value} {xs : List Int} {w w1 : World} {o : Obj} (hp : Has w p 61 cs) (hR : Rows w (shelfI hv hc L)) (hpf : p ∉ foot (shelfI hv hc L))
    (hrow : w.ownsRow 0 3 1 v xs.length (cellsI xs)) (hd : ∀ g, v.ownBlock = some g → g ≠ p ∧ g ∉ foot (shelfI hv hc L)) (hgn : Grown (w.alloc o) hv hv' w1) (hown : w1.ownsRow 0 22 1 hv' (L.length + 1) (L.map KeptI.v ++ [v])) :
    MidI p cs hv' hc (foot (shelfI hv hc L)) L v xs w (w1.setCell ⟨p, 2, none⟩ hv') := by
  have hal : Below w.heap.size w (w.alloc o) := (Below.refl _ _).alloc (Nat.le_refl _) _
  have hz := hal.size
  have hg : Goes (RowS.foot ⟨22, 1, hv, L.length, L.map KeptI.v⟩) (w.alloc o) (RowS.foot ⟨22, 1, hv', L.length + 1, L.map KeptI.v ++ [v]⟩) w1 := hgn.1
  have hRt := Rows.turn (hR.below hal) hg hown
  have hft := foot_turn (R := ⟨22, 1, hc, L.length, L.map KeptI.c⟩ :: (L.map KeptI.rv ++ L.map KeptI.rc)) hg
  have hsub : ∀ k ∈ hv.ownBlock.toList, k ∈ foot (shelfI hv hc L) := fun k hk => by
    unfold shelfI
    rw [foot_cons]
    exact List.mem_append.2 (.inl hk)
  have hpn : p ∉ hv.ownBlock.toList := fun h => hpf (hsub p h)
  have hpl := hp.inside
  have hp1 := (hp.alloc o).kept hgn.1.1 hpn
  refine ⟨hp1.put 2 hv', hRt.past (fun h => (hft p h).elim hpf (fun h => by omega)) _, fun k hk => (hft k hk).imp id (fun h => by omega), ?_, ?_⟩
  · exact (((Kept.refl _ _).alloc o).then_ hgn.1.1 (fun k hk => .inl (List.mem_cons_of_mem _ (hsub k hk)))).setCell (.inl (by simp)) _
  · refine row_kept (F := p :: hv.ownBlock.toList) hrow ((((Kept.refl _ _).alloc o).then_ hgn.1.1 (fun k hk => .inl (by simp [hk]))).setCell (.inl (by simp)) _) (fun g hg h => ?_)
    obtain ⟨h1, h2⟩ := hd g hg
    rcases List.mem_cons.1 h with rfl | h
    · exact h1 rfl
    · exact h2 (hsub g h)

theorem KeepEndI.of {p : Nat} {cs : Array Value} {hv hv' hc hc' c : Value} {L : List KeptI} {v : Value} {xs : List Int} {w W w3 w4 : World} {o : Obj} (hM : MidI p cs hv' hc (foot (shelfI hv hc L)) L v xs w W) (hF0 : ∀ k ∈ foot (shelfI hv hc L), k < w.heap.size) (hpf : p ∉ foot (shelfI hv hc L))
    (hpl : p < w.heap.size) (hvl : ∀ g, v.ownBlock = some g → g < w.heap.size) (hd : ∀ g, v.ownBlock = some g → g ≠ p ∧ g ∉ foot (shelfI hv hc L)) (hb3 : Below W.heap.size W w3) (hc3 : w3.ownsRow W.heap.size 3 1 c xs.length (cellsI xs)) (hgn : Grown (w3.alloc o) hc hc' w4)
    (hown : w4.ownsRow 0 22 1 hc' (L.length + 1) (L.map KeptI.c ++ [c])) : KeepEndI p cs hv hc L v xs w (w4.setCell ⟨p, 3, none⟩ hc') := by
  have hal : Below w3.heap.size w3 (w3.alloc o) := (Below.refl _ _).alloc (Nat.le_refl _) _
  have hz3 := hb3.size
  have hza := hal.size
  have hzw := hM.kept.size
  have hb : Below W.heap.size W (w3.alloc o) := hb3.trans (hal.mono hz3)
  have hg : Goes (RowS.foot ⟨22, 1, hc, L.length, L.map KeptI.c⟩) (w3.alloc o) (RowS.foot ⟨22, 1, hc', L.length + 1, L.map KeptI.c ++ [c]⟩) w4 := hgn.1
  have hR1 := (hM.rows.below hb).perm (List.Perm.swap _ _ _)
  have hRt := (Rows.turn hR1 hg hown).perm (List.Perm.swap _ _ _)
  have hft := foot_turn (R := ⟨22, 1, hv', L.length + 1, L.map KeptI.v ++ [v]⟩ :: (L.map KeptI.rv ++ L.map KeptI.rc)) hg
  have hfrom : ∀ k ∈ foot (⟨22, 1, hv', L.length + 1, L.map KeptI.v ++ [v]⟩ :: ⟨22, 1, hc', L.length + 1, L.map KeptI.c ++ [c]⟩ :: (L.map KeptI.rv ++ L.map KeptI.rc)), k ∈ foot (shelfI hv hc L) ∨ (w.heap.size ≤ k ∧ k < W.heap.size) ∨ (w3.alloc o).heap.size ≤ k := fun k hk => by
    rcases hft k ((foot_perm (List.Perm.swap _ _ _)).1 hk) with h | h
    · have h1 := (foot_perm (List.Perm.swap _ _ _)).1 h
      exact (hM.from_ k h1).imp id (fun h2 => .inl ⟨h2, hM.rows.lt k h1⟩)
    · exact .inr (.inr h)
  have hcsub : ∀ k ∈ hc.ownBlock.toList, k ∈ foot (shelfI hv hc L) ∨ w.heap.size ≤ k := fun k hk => hM.from_ k (by
    rw [foot_cons, foot_cons]
    exact List.mem_append.2 (.inr (List.mem_append.2 (.inl hk))))
  have hclt : ∀ k ∈ hc.ownBlock.toList, k < W.heap.size := fun k hk => hM.rows.lt k (by
    rw [foot_cons, foot_cons]
    exact List.mem_append.2 (.inr (List.mem_append.2 (.inl hk))))
  have hpl2 : p < W.heap.size := by omega
  have hpn : p ∉ hc.ownBlock.toList := fun h => (hcsub p h).elim hpf (fun h => by omega)
  have hk4 : Kept hc.ownBlock.toList W w4 := (Kept.of_below hb).trans hgn.1.1
  have hrv : RowS.on ⟨3, 1, v, xs.length, cellsI xs⟩ w4 := row_kept hM.row hk4 (fun g hg h => (hcsub g h).elim (hd g hg).2 (fun h2 => by have := hvl g hg; omega))
  have hrc : RowS.on ⟨3, 1, c, xs.length, cellsI xs⟩ w4 := row_kept (row_base0 hc3) (((Kept.refl _ _).alloc o).then_ hgn.1.1 (fun k hk => .inl hk)) (fun g hg h => by have := hclt g h; have := (hc3.lt g hg).1; omega)
  have hcl : ∀ g, c.ownBlock = some g → W.heap.size ≤ g ∧ g < w3.heap.size := fun g hg => hc3.lt g hg
  have hnew : ∀ k ∈ foot [(⟨v, c, xs⟩ : KeptI).rv, (⟨v, c, xs⟩ : KeptI).rc], v.ownBlock = some k ∨ c.ownBlock = some k := fun k hk => by
    obtain ⟨r, hr, hg⟩ := mem_foot.1 hk
    simp only [List.mem_cons, List.not_mem_nil, or_false] at hr
    rcases hr with rfl | rfl
    · exact .inl hg
    · exact .inr hg
  have hpair : Rows w4 [(⟨v, c, xs⟩ : KeptI).rv, (⟨v, c, xs⟩ : KeptI).rc] := (rows_one hrv).join (rows_one hrc) (fun g h1 h2 => by
    obtain ⟨r1, hr1, hg1⟩ := mem_foot.1 h1
    obtain ⟨r2, hr2, hg2⟩ := mem_foot.1 h2
    simp only [List.mem_cons, List.not_mem_nil, or_false] at hr1 hr2
    subst hr1 hr2
    have := hvl g hg1
    have := (hcl g hg2).1
    omega)
  have hdis : ∀ g ∈ foot (⟨22, 1, hv', L.length + 1, L.map KeptI.v ++ [v]⟩ :: ⟨22, 1, hc', L.length + 1, L.map KeptI.c ++ [c]⟩ :: (L.map KeptI.rv ++ L.map KeptI.rc)), g ∉ foot [(⟨v, c, xs⟩ : KeptI).rv, (⟨v, c, xs⟩ : KeptI).rc] := fun g h1 h2 => by
    rcases hnew g h2 with h | h
    · have := hvl g h
      rcases hfrom g h1 with h3 | h3 | h3
      · exact (hd g h).2 h3
      · omega
      · omega
    · have := hcl g h
      rcases hfrom g h1 with h3 | h3 | h3
      · have := hF0 g h3
        omega
      · omega
      · omega
  have hall := hRt.join hpair hdis
  have hperm := shelfI_snoc hv' hc' L ⟨v, c, xs⟩
  have hpos : ∀ k ∈ foot (shelfI hv' hc' (L ++ [⟨v, c, xs⟩])), k ∈ foot (shelfI hv hc L) ∨ v.ownBlock = some k ∨ w.heap.size ≤ k := fun k hk => by
    have h1 := (foot_perm hperm).2 hk
    rw [foot_append] at h1
    rcases List.mem_append.1 h1 with h | h
    · rcases hfrom k h with h3 | h3 | h3
      · exact .inl h3
      · exact .inr (.inr h3.1)
      · exact .inr (.inr (by omega))
    · rcases hnew k h with h3 | h3
      · exact .inr (.inl h3)
      · have := hcl k h3
        exact .inr (.inr (by omega))
  have hpx : p ∉ foot (shelfI hv' hc' (L ++ [⟨v, c, xs⟩])) := fun h => by
    rcases hpos p h with h1 | h1 | h1
    · exact hpf h1
    · exact (hd p h1).1 rfl
    · omega
  have hp4 := (hM.has.below hb hpl2).kept hgn.1.1 hpn
  refine ⟨hv', hc', c, hp4.put 3 hc', (hall.perm hperm).past hpx _, hpx, ?_, hpos⟩
  exact (hM.kept.then_ hk4 (fun k hk => (hcsub k hk).imp (fun h => List.mem_cons_of_mem _ h) id)).setCell (.inl (by simp)) _

set_option maxRecDepth 100000 in
set_option maxHeartbeats 2000000 in
theorem bkInts_any {w : World} {p : Nat} {cs : Array Value} {hv hc : Value} {L : List KeptI} {v : Value} {xs : List Int} (hp : Has w p 61 cs) (h2 : cs[2]? = some hv) (h3 : cs[3]? = some hc) (hR : Rows w (shelfI hv hc L)) (hpf : p ∉ foot (shelfI hv hc L))
    (hrow : w.ownsRow 0 3 1 v xs.length (cellsI xs)) (hd : ∀ g, v.ownBlock = some g → g ≠ p ∧ g ∉ foot (shelfI hv hc L)) (hL : L.length < 250) (hx : xs.length ≤ 1000000) :
    Calls Tryz.prog 24 #[.pointer (some ⟨p, 0, none⟩), v] w fun e w' => e = .returned (.tuple #[]) ∧ KeepEndI p cs hv hc L v xs w w' := by
  obtain ⟨i0, hi0, hz0, hz1, hz2⟩ := info_parts Tryz.infoInts
  have hr1 : w.ownsRow 0 22 1 hv L.length (L.map KeptI.v) := hR.all ⟨22, 1, hv, L.length, L.map KeptI.v⟩ (by simp [shelfI])
  have hr2 : w.ownsRow 0 22 1 hc L.length (L.map KeptI.c) := hR.all ⟨22, 1, hc, L.length, L.map KeptI.c⟩ (by simp [shelfI])
  obtain ⟨n, hn⟩ : ∃ n, L.length = n := ⟨_, rfl⟩
  rw [hn] at hr1 hr2
  obtain ⟨A1, c1, rfl⟩ := row_form hr1
  obtain ⟨A2, c2, rfl⟩ := row_form hr2
  obtain ⟨m, hm⟩ : ∃ m, xs.length = m := ⟨_, rfl⟩
  have hrow' := hrow
  rw [hm] at hrow' hx
  obtain ⟨A3, c3, rfl⟩ := row_form hrow'
  have hv1 : (Value.slice A3 m c3).oneCell' = true := rfl
  have cc2 := (hp.cell 2).trans h2
  have cf2 := hp.free 2
  have hpl := hp.inside
  have hal : Below w.heap.size w (w.alloc (.cells #[.slice A3 m c3] 22)) := (Below.refl _ _).alloc (Nat.le_refl _) _
  have hra := World.ownsRow.alloc hr1 (.cells #[.slice A3 m c3] 22)
  rw [hn] at hL
  have HP := Lib.hid (And.intro hp (And.intro hR (And.intro hpf (And.intro hrow (And.intro hd (And.intro hal (And.intro hn (And.intro hm (And.intro h2 h3)))))))))
  have hnb : (n : Int) < 250 := by omega
  clear hp h2 h3 hR hpf hrow hd hal hn hm hr1 hr2 hrow'
  go_enter Tryz.func24, Tryz.ntmps24
  have hpn : p ∉ (Value.slice A1 n c1).ownBlock.toList := fun h => HP.out.2.2.1 (mem_foot.2 ⟨⟨22, 1, .slice A1 n c1, L.length, L.map KeptI.v⟩, by simp [shelfI], by simpa using h⟩)
  go_wp2_with (at_builtin; refine wpList_append_keeps rfl _ _ 50 22 i0 (.slice none 0 0) 1 24 Tryz.underlying50 hi0 hz0 hz1 hz2 rfl (by decide) rfl _ (.slice A1 n c1) n _ rfl hra ⟨w.heap.size, 0, none⟩ 1 1 rfl [.slice A3 m c3] rfl (cell_one_new _ _ _) (by intro u hu; simp at hu; subst hu; rfl) (by omega) (by unfold maxLen; omega) (by omega) ?_; intro hv' w1 hown1 hgn1; obtain ⟨A4, c4, rfl⟩ := row_form hown1; have hp1 := (HP.out.1.alloc (.cells #[.slice A3 m c3] 22)).kept hgn1.1.1 hpn; have cc3 := (hp1.cell 2).trans HP.out.2.2.2.2.2.2.2.2.1; have cf3 := hp1.free 2)
  clear cc2 cf2 cc3 cf3 hp1 hra
  obtain ⟨hp, hR, hpf, hrow, hd, hal, hn, hm, h2, h3⟩ := HP.out
  have hM := MidI.of hp hR hpf hrow hd hgn1 (by rw [hn]; exact hown1)
  have hF0 := hR.lt
  have hvl : ∀ g, (Value.slice A3 m c3).ownBlock = some g → g < w.heap.size := fun g hg => (hrow.lt g hg).2
  have hr2 := hM.rows.all ⟨22, 1, .slice A2 n c2, L.length, L.map KeptI.c⟩ (by simp)
  have cc3 : (w1.setCell ⟨p, 2, none⟩ (.slice A4 (n + 1) c4)).drew.cell? ⟨p, 3, none⟩ = some (.slice A2 n c2) := by
    refine (hM.has.cell 3).trans ?_
    rw [Array.getElem?_setIfInBounds_ne (by decide)]
    exact h3
  have hrw : (w1.setCell ⟨p, 2, none⟩ (.slice A4 (n + 1) c4)).drew.ownsRow 0 3 1 (.slice A3 m c3) m (cellsI xs) := by
    have := hM.row
    rw [hm] at this
    exact this.drew
  have hcp := copyInts_any hrw hx
  have hmp : p < (w1.setCell ⟨p, 2, none⟩ (.slice A4 (n + 1) c4)).heap.size := Nat.lt_of_lt_of_le hpl hM.kept.size
  have HQ := Lib.hid (And.intro hM (And.intro hF0 (And.intro hpf (And.intro hpl (And.intro hvl (And.intro hd (And.intro hn (And.intro hm (And.intro hmp (And.intro hr2 h3))))))))))
  clear hp hR hpf hrow hd hal hn hm h2 h3 hM hF0 hvl hr2 hown1 hgn1 HP hpn hrw hmp
  generalize w1.setCell ⟨p, 2, none⟩ (.slice A4 (n + 1) c4) = W at *
  refine wp_region_tills (fun w' => w'.cell? ⟨p, 3, none⟩ = some (.slice A2 n c2)) 9 (by kernel_rfl) ?_
  refine till_takeAt 20 (i := 0) (v := .pointer (some ⟨p, 0, none⟩)) rfl rfl (by kernel_rfl) (by kernel_rfl) (by kernel_rfl) (by kernel_rfl) (by kernel_rfl) (fun _ _ _ h => h) (Or.inl ⟨by rfl, fun w' hw' => by obtain q1 := hw'; go_simp⟩) cc3 ?_
  simp only [List.setIfInBounds_toArray, List.set_cons_zero, List.set_cons_succ]
  refine till_takeAt 21 (i := 1) (v := .pointer (some ⟨p, 0, none⟩)) rfl rfl (by kernel_rfl) (by kernel_rfl) (by kernel_rfl) (by kernel_rfl) (by kernel_rfl) (fun _ _ _ h => h) (Or.inl ⟨by rfl, fun w' hw' => by obtain q1 := hw'; go_simp⟩) cc3 ?_
  simp only [List.setIfInBounds_toArray, List.set_cons_zero, List.set_cons_succ]
  refine till_takeAt 22 (i := 2) (v := .pointer (some ⟨p, 0, none⟩)) rfl rfl (by kernel_rfl) (by kernel_rfl) (by kernel_rfl) (by kernel_rfl) (by kernel_rfl) (fun _ _ _ h => h) (Or.inl ⟨by rfl, fun w' hw' => by obtain q1 := hw'; go_simp⟩) cc3 ?_
  simp only [List.setIfInBounds_toArray, List.set_cons_zero, List.set_cons_succ]
  refine till_takeAt 23 (i := 3) (v := .pointer (some ⟨p, 3, none⟩)) rfl rfl (by kernel_rfl) (by kernel_rfl) (by kernel_rfl) (by kernel_rfl) (by kernel_rfl) (fun _ _ _ h => h) (Or.inl ⟨by rfl, fun w' hw' => by obtain q1 := hw'; go_simp⟩) cc3 ?_
  simp only [List.setIfInBounds_toArray, List.set_cons_zero, List.set_cons_succ]
  refine till_takeAt 24 (i := 4) (v := .slice A2 n c2) rfl rfl (by kernel_rfl) (by kernel_rfl) (by kernel_rfl) (by kernel_rfl) (by kernel_rfl) (fun _ _ _ h => h) (Or.inl ⟨by rfl, fun w' hw' => by obtain q1 := hw'; go_simp⟩) cc3 ?_
  simp only [List.setIfInBounds_toArray, List.set_cons_zero, List.set_cons_succ]
  refine till_takeAt 25 (i := 5) (v := .slice A3 m c3) rfl rfl (by kernel_rfl) (by kernel_rfl) (by kernel_rfl) (by kernel_rfl) (by kernel_rfl) (fun _ _ _ h => h) (Or.inl ⟨by rfl, fun w' hw' => by obtain q1 := hw'; go_simp⟩) cc3 ?_
  simp only [List.setIfInBounds_toArray, List.set_cons_zero, List.set_cons_succ]
  refine till_one (i := 6) (by kernel_rfl) rfl rfl (fun K hK => ?_)
  go_simp
  refine hcp.mono ?_
  rintro e w3 ⟨c, rfl, hc3, hb3⟩
  have hb3' : Below W.heap.size W w3 := ⟨hb3.os, hb3.tape, hb3.output, hb3.size, hb3.block⟩
  have hc3' : w3.ownsRow W.heap.size 3 1 c m (cellsI xs) := hc3
  obtain ⟨hM, hF0, hpf, hpl', hvl, hd, hn, hm, hmp, hr2, h3⟩ := HQ.out
  have cc4 : w3.cell? ⟨p, 3, none⟩ = some (.slice A2 n c2) := (hb3'.cell (p := ⟨p, 3, none⟩) hmp).trans cc3
  refine hK _ _ ⟨fun _ => cc4, ?_⟩
  clear hK K hcp hb3 hc3 cc3
  obtain ⟨A5, c5, rfl⟩ := row_form hc3'
  have hb4 : Below w3.heap.size w3 (w3.alloc (.cells #[.slice A5 m c5] 22)) := (Below.refl _ _).alloc (Nat.le_refl _) _
  have hz3 := hb3'.size
  have hmp3 : p < w3.heap.size := by omega
  have cc5 : (w3.alloc (.cells #[.slice A5 m c5] 22)).cell? ⟨p, 3, none⟩ = some (.slice A2 n c2) := (hb4.cell (p := ⟨p, 3, none⟩) hmp3).trans cc4
  have hr5 : (w3.alloc (.cells #[.slice A5 m c5] 22)).ownsRow 0 22 1 (.slice A2 n c2) n (L.map KeptI.c) := by
    have h5 : (w3.alloc (.cells #[.slice A5 m c5] 22)).ownsRow 0 22 1 (.slice A2 n c2) L.length (L.map KeptI.c) := row_kept (F := []) hr2 (Kept.of_below (hb3'.trans (hb4.mono hz3))) (by simp)
    rwa [hn] at h5
  have HZ := Lib.hid (And.intro hM (And.intro hF0 (And.intro hpf (And.intro hvl (And.intro hd (And.intro hn (And.intro hm (And.intro hmp (And.intro h3 (And.intro hb3' hc3'))))))))))
  clear hM hF0 hpf hpl' hvl hd hn hm hmp hr2 h3 hb3' hc3' HQ cc4 hb4
  refine till_one (i := 7) (by kernel_rfl) rfl rfl (fun K hK => ?_)
  go_simp
  refine hK _ _ ⟨fun _ => cc5, ?_⟩
  clear hK K
  refine till_one (i := 8) (by kernel_rfl) rfl rfl (fun K hK => ?_)
  refine wp_append_keeps (.tmp 24) (.tmp 27) 50 22 i0 (.slice none 0 0) 1 24 Tryz.underlying50 hi0 hz0 hz1 hz2 rfl (by decide) rfl _ (.slice A2 n c2) n _ (by rfl) hr5 ⟨w3.heap.size, 0, none⟩ 1 1 (by rfl) [.slice A5 m c5] rfl (cell_one_new _ _ _) (by intro u hu; simp at hu; subst hu; rfl) (by omega) (by unfold maxLen; omega) (by omega) ?_
  intro hc' w4 hown4 hgn4
  obtain ⟨A6, c6, rfl⟩ := row_form hown4
  obtain ⟨hM, hF0, hpf, hvl, hd, hn, hm, hmp, h3, hb3', hc3'⟩ := HZ.out
  have hcsub : ∀ k ∈ (Value.slice A2 n c2).ownBlock.toList, k ≠ p := fun k hk e => by
    subst e
    rcases hM.from_ k (by rw [foot_cons, foot_cons]; exact List.mem_append.2 (.inr (List.mem_append.2 (.inl hk)))) with h | h
    · exact hpf h
    · omega
  have hp4 := ((hM.has.below (hb3'.trans (((Below.refl w3.heap.size w3).alloc (Nat.le_refl _) (.cells #[.slice A5 m c5] 22)).mono hz3)) hmp).kept hgn4.1.1 (fun h => hcsub p h rfl))
  have cc6 : w4.cell? ⟨p, 3, none⟩ = some (.slice A2 n c2) := by
    refine (hp4.cell 3).trans ?_
    rw [Array.getElem?_setIfInBounds_ne (by decide)]
    exact h3
  have cf6 := hp4.free 3
  have hfin := KeepEndI.of hM hF0 hpf hpl hvl hd hb3' (by rw [hm]; exact hc3') hgn4 (by rw [hn]; exact hown4)
  have HF := Lib.hid hfin
  refine hK _ _ ⟨fun _ => cc6, ?_⟩
  clear hK K hM hF0 hpf hvl hd hn hm hmp h3 hb3' hc3' HZ hp4 hfin hcsub hown4 hgn4 hr5 cc5
  refine till_one (i := 9) (by kernel_rfl) rfl rfl (fun K hK => ?_)
  go_simp
  refine hK _ _ ⟨fun h => absurd h (by omega), ?_⟩
  clear hK K
  refine till_one (i := 10) (by kernel_rfl) rfl rfl (fun K hK => ?_)
  go_simp
  refine hK _ _ ⟨fun h => absurd h (by omega), ?_⟩
  clear hK K
  refine till_one (i := 11) (by kernel_rfl) rfl rfl (fun K hK => ?_)
  go_simp
  refine hK _ _ ⟨fun h => absurd h (by omega), till_done (by kernel_rfl) ?_ _⟩
  clear hK K
  exact bodyPost_end (results_none rfl _ _ _) rfl ⟨rfl, HF.out⟩
end Go.Proofs.YtjimjemogbphaaaGreat
