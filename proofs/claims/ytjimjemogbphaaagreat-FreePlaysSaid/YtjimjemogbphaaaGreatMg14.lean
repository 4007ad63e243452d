/-
  The statements' book, of lists of what is due: marks, copies, sameness. The statements' book, of lists of what is due: one more list is kept, with a copy.
-/
import Derived.Test.YtjimjemogbphaaaGreatMg9
import Derived.Test.YtjimjemogbphaaaGreatMg13
namespace Go.Proofs.YtjimjemogbphaaaGreat.BD
open Go.RowKit

def markOfD (i k : Nat) : Due := (-1 - (i : Int), 0, (k : Int))
def marksD (i a n : Nat) : List Due := (List.range' a n).map (markOfD i)
theorem length_marksD (i a n : Nat) : (marksD i a n).length = n := by simp [marksD]
theorem marksD_snoc (i a n : Nat) : marksD i a (n + 1) = marksD i a n ++ [markOfD i (a + n)] := by
  unfold marksD
  rw [List.range'_concat]
  simp
theorem marksD_append (i a m n : Nat) : marksD i a m ++ marksD i (a + m) n = marksD i a (m + n) := by
  unfold marksD
  rw [← List.map_append, List.range'_append_1]

def cellsD (l : List Due) : List Value := dlist l
theorem cellsD_append (l m : List Due) : cellsD (l ++ m) = cellsD l ++ cellsD m := dlist_append l m
theorem length_cellsD (l : List Due) : (cellsD l).length = l.length * 3 := length_dlist l
theorem cellsD_one (l : List Due) : ∀ u ∈ cellsD l, u.oneCell' = true := by
  intro u hu
  unfold cellsD dlist at hu
  obtain ⟨d, _, h⟩ := List.mem_flatMap.1 hu
  exact dcells_one d u h

theorem cells_new (w : World) (e : TypeId) (xs : List Value) : ∀ j u, xs[j]? = some u → (w.alloc (.cells xs.toArray e)).cell? ((⟨w.heap.size, 0, none⟩ : Addr).add j) = some u :=
  fun j u hu => World.news_of_block (Has.made w e xs.toArray) j u hu

set_option maxRecDepth 100000 in
set_option maxHeartbeats 1000000 in
theorem markDues_any (i a n : Nat) (w : World) (hi : i ≤ 1000) (ha : a ≤ 2000000) (hn : n ≤ 2000000) :
    Calls Tryz.prog 134 #[.int .i64 i, .int .i64 a, .int .i64 n] w fun e w' => ∃ v', e = .returned v' ∧ w'.ownsRow w.heap.size 94 3 v' n (cellsD (marksD i a n)) ∧ Below w.heap.size w w' := by
  obtain ⟨i0, hi0, hz0, hz1, hz2⟩ := info_parts Tryz.infoDue
  have HI := Lib.hid (And.intro hi0 (And.intro hz0 (And.intro hz1 hz2)))
  clear hi0 hz0 hz1 hz2
  have ha0 : (a : Int) ≤ 2000000 := by omega
  have hn0 : (n : Int) ≤ 2000000 := by omega
  have hi1 : (i : Int) ≤ 1000 := by omega
  have hi2 : (0 : Int) ≤ i := by omega
  go_enter Tryz.func134, Tryz.ntmps134
  go_wp2_with fail
  go_loopg [7, 8] n (fun g ov kv wr => ∃ (j z : Nat), kv = .int .i64 z ∧ z = a + j ∧ j + g = n ∧ wr.ownsRow w.heap.size 94 3 ov j (cellsD (marksD i a j)) ∧ Below w.heap.size w wr)
  case atStart => exact ⟨0, a, rfl, rfl, by omega, World.ownsRow_nil _ _ _ _, Below.refl _ _⟩
  case round =>
    obtain ⟨j, z, rfl, hz, hjg, hown, hb⟩ := hrel
    have hz1 : (z : Int) ≤ 4000000 := by omega
    have hz0 : (0 : Int) ≤ z := by omega
    by_cases hlt : j < n
    · have hlt1 : (z : Int) < (a : Int) + n := by omega
      obtain ⟨i0, hi0, hzz0, hzz1, hzz2⟩ := info_parts Tryz.infoDue
      have hra := World.ownsRow.alloc (row_base0 hown) (.cells (dcells (-1 - (i : Int), 0, (z : Int))).toArray 94)
      have hgr := fun g hg => (hown.lt g hg).1
      have hsn := marksD_snoc i a j
      rw [← hz] at hsn
      have HB := Lib.hid (And.intro hb (And.intro hgr (And.intro hsn hz)))
      have hbs := hb.size
      have hone := dcells_one (-1 - (i : Int), 0, (z : Int))
      have hnew := cells_new wr 94 (dcells (-1 - (i : Int), 0, (z : Int)))
      clear hown hb hgr hsn hz
      go_wp2_with (at_builtin; refine wpList_append_keeps rfl _ _ 39 94 i0 (.agg #[.int .i64 0, .int .i64 0, .int .i64 0]) 3 24 Tryz.underlying39 hi0 hzz0 hzz1 hzz2 rfl (by decide) rfl _ u7 j _ rfl hra ⟨wr.heap.size, 0, none⟩ 1 1 rfl (dcells (-1 - (i : Int), 0, (z : Int))) rfl hnew hone (by omega) (by unfold maxLen; omega) (by omega) ?_; intro v' w' hown' hgn)
      go_roundg (n - (j + 1))
      case measure => omega
      case rel =>
        obtain ⟨hb, hgr, hsn, hz⟩ := HB.out
        have hal : Below wr.heap.size wr (wr.alloc (.cells (dcells (-1 - (i : Int), 0, (z : Int))).toArray 94)) := (Below.refl _ _).alloc (Nat.le_refl _) _
        obtain ⟨hb2, hg2⟩ := hgn.below (base := w.heap.size) (Nat.le_trans hbs hal.size) hgr
        refine ⟨j + 1, z + 1, by go_num, by omega, by omega, ?_, (hb.trans (hal.mono hbs)).trans hb2⟩
        have h5 := row_raise hown' hg2
        rw [hsn, cellsD_append]
        exact h5
    · obtain rfl : j = n := by omega
      have hge : decide ((z : Int) < (a : Int) + j) = false := by simp; omega
      have HB := Lib.hid (And.intro hown hb)
      clear hown hb hz
      go_wp2_with fail
      go_ret
      exact ⟨_, rfl, HB.out.1, HB.out.2⟩

section
variable {ops : Array Oper} {rest : List Oper} {o : Oper} {a : Act} {Q : Exit → Act → World → Prop}
/-- append(nil, row...), of several cells each. -/
theorem append_copy_row (hgd : o.guard = none) (s x : Operand) (t e : TypeId) (z : Value) (k nb : Nat) (ht : Tryz.prog.underlying t = some (.slice e)) (hinfo : (Tryz.prog.info? e).map (fun i => (i.zero, i.size, i.bytes)) = some (some z, k, nb)) (hzs : z.cells.size = k) (hk : 0 < k) (hnb : nb ≤ 1000)
    (ho : o.op = .call { callee := .builtin .append, args := #[s, x], argTypes := #[t, t] }) (base : Nat) (wr : World) (hs : a.eval s = .slice none 0 0) (B : Nat) (v : Value) (n : Nat) (hx : a.eval x = v) (vals : List Value) (hr : wr.ownsRow B e k v n vals)
    (h1 : ∀ u ∈ vals, u.oneCell' = true) (hlen : n ≤ 1000000) (hbase : base ≤ wr.heap.size)
    (h : ∀ v' w', w'.ownsRow base e k v' n vals → Below base wr w' → wpList Tryz.prog ops Q rest (a.put o.dst v') w') : wpList Tryz.prog ops Q (o :: rest) a wr := by
  obtain ⟨i0, hi, hz0, hz1, hz2⟩ := info_parts hinfo
  have hnil := World.ownsRow_nil wr base e k
  have hmul : n * nb ≤ 1000000000 := by
    have := Nat.mul_le_mul hlen hnb
    omega
  have hl := hr.1
  rcases hr.2 with ⟨rfl, rfl⟩ | ⟨g, cap, cur, rfl, _⟩
  · obtain rfl : vals = [] := List.eq_nil_of_length_eq_zero (by simpa using hl)
    exact wpList_append_own_none hgd s x t ho base e i0 k ht hi _ 0 [] hs hnil hx (h _ _ hnil (Below.refl _ _))
  · refine wpList_append_own _ hgd s x t ho base e i0 z k nb ht hi hz0 hz1 hz2 hzs hk _ 0 [] hs hnil ⟨g, 0, none⟩ n cap vals hx hl (hr.cells rfl) h1 (by unfold maxLen; omega) (by rw [Nat.zero_add]; omega) hbase ?_
    intro v' w' h2 h3 _
    rw [Nat.zero_add, List.nil_append] at h2
    exact h v' w' h2 ((Below.refl base wr).grown h3 hbase (fun k hk => by cases hk))
end


theorem rangeD {w : World} {base g n cap : Nat} {l : List Due} (hr : w.ownsRow base 94 3 (.slice (some ⟨g, 0, none⟩) n cap) n (cellsD l)) {i : Nat} (hi : i < l.length) : w.rangeAt g (i * 3) (dcells l[i]) := by
  have h := due_range (a := l.toArray) hr (i := i) (by simpa using hi)
  simpa [hi] using h
theorem length_row {w : World} {base n : Nat} {v : Value} {l : List Due} (h : w.ownsRow base 94 3 v n (cellsD l)) : l.length = n := by
  have := h.1
  rw [length_cellsD] at this
  omega

theorem rangeL {w : World} {g : Nat} {l : List Due} (hc : ∀ q u, (cellsD l)[q]? = some u → w.cell? ⟨g, q, none⟩ = some u) {i : Nat} (hi : i < l.length) : w.rangeAt g (i * 3) (dcells l[i]) := fun j v hv => hc _ _ (by
  have hj : j < 3 := (List.getElem?_eq_some_iff.1 hv).1
  unfold cellsD
  rw [dlist_at l i j l[i] (List.getElem?_eq_getElem hi) hj, hv])

set_option maxRecDepth 1000000 in
set_option maxHeartbeats 1000000 in
theorem sameDues_any (v1 v2 : Value) (n : Nat) (l : List Due) (w : World) (hr1 : ReadsL w v1 n (cellsD l)) (hr2 : ReadsL w v2 n (cellsD l)) (hn : l.length = n) (hl : n ≤ 1000000) :
    Calls Tryz.prog 122 #[v1, v2] w fun e w' => e = .returned (.bool true) ∧ Below w.heap.size w w' := by
  obtain ⟨A1, c1, rfl, hr1⟩ := hr1
  obtain ⟨A2, c2, rfl, hr2⟩ := hr2
  have HP := Lib.hid (And.intro hr1 (And.intro hr2 hn))
  clear hr1 hr2 hn
  go_enter Tryz.func122, Tryz.ntmps122
  go_wp2
  go_loopg [5] n (fun g i wr => ∃ k : Nat, i = .int .i64 k ∧ k + g = n ∧ Below w.heap.size w wr)
  case atStart => exact ⟨0, rfl, by omega, Below.refl _ _⟩
  case round =>
    obtain ⟨k, rfl, hkg, hbl⟩ := hrel
    by_cases hlt : k < n
    · obtain ⟨hr1, hr2, hn⟩ := HP.out
      obtain ⟨g1, rfl, hg1, hc1⟩ := hr1 (by omega)
      obtain ⟨g2, rfl, hg2, hc2⟩ := hr2 (by omega)
      have r1 : wr.drew.rangeAt g1 (k * 3) (dcells l[k]) := (World.rangeAt_drew _ _ _ _).2 (rangeL (fun q u hu => (hbl.cell (p := ⟨g1, q, none⟩) hg1).trans (hc1 q u hu)) (by omega))
      have r2 : wr.drew.rangeAt g2 (k * 3) (dcells l[k]) := (World.rangeAt_drew _ _ _ _).2 (rangeL (fun q u hu => (hbl.cell (p := ⟨g2, q, none⟩) hg2).trans (hc2 q u hu)) (by omega))
      generalize l[k] = x at *
      have HZ := Lib.hid Tryz.sizeDue
      have HB := Lib.hid hbl
      have hS : wr.drew.rangeAt g1 (k * 3) (dcells x) ∧ wr.drew.rangeAt g2 (k * 3) (dcells x) := ⟨r1, r2⟩
      have k0 : (0 : Int) ≤ k := by omega
      have k1 : (k : Int) < n := by omega
      clear hr1 hr2 r1 r2 hbl hn hg1 hg2 hc1 hc2
      go_wp2_with fail
      refine wp_region_tills (fun w' => w'.rangeAt g1 (k * 3) (dcells x) ∧ w'.rangeAt g2 (k * 3) (dcells x)) 8 (by kernel_rfl) ?_
      refine till_takeAt 17 (i := 0) (v := .slice (some ⟨g1, 0, none⟩) n c1) rfl rfl (by kernel_rfl) (by kernel_rfl) (by kernel_rfl) (by kernel_rfl) (by kernel_rfl) (fun _ _ _ h => h) (Or.inl ⟨by rfl, fun w' hw' => by obtain ⟨q1, q2⟩ := hw'; go_simp⟩) hS ?_
      simp only [List.setIfInBounds_toArray, List.set_cons_zero, List.set_cons_succ]
      refine till_takeAt 18 (i := 1) (v := .int .i64 k) rfl rfl (by kernel_rfl) (by kernel_rfl) (by kernel_rfl) (by kernel_rfl) (by kernel_rfl) (fun _ _ _ h => h) (Or.inl ⟨by rfl, fun w' hw' => by obtain ⟨q1, q2⟩ := hw'; go_simp⟩) hS ?_
      simp only [List.setIfInBounds_toArray, List.set_cons_zero, List.set_cons_succ]
      refine till_takeAt 19 (i := 2) (v := .pointer (some ⟨g1, k * 3, none⟩)) rfl rfl (by kernel_rfl) (by kernel_rfl) (by kernel_rfl) (by kernel_rfl) (by kernel_rfl) (fun _ _ _ h => h) (Or.inl ⟨by rfl, fun w' hw' => by obtain ⟨q1, q2⟩ := hw'; go_simp⟩) hS ?_
      simp only [List.setIfInBounds_toArray, List.set_cons_zero, List.set_cons_succ]
      refine till_takeAt 20 (i := 3) (v := .agg (dcells x).toArray) rfl rfl (by kernel_rfl) (by kernel_rfl) (by kernel_rfl) (by kernel_rfl) (by kernel_rfl) (fun _ _ _ h => h) (yields_mid rfl 94 (.tmp 19) rfl g1 (k * 3) (by rfl) (dcells x) _ (fun w' h => h.1) Tryz.underlying94 rfl HZ.out) hS ?_
      simp only [List.setIfInBounds_toArray, List.set_cons_zero, List.set_cons_succ]
      refine till_takeAt 21 (i := 4) (v := .slice (some ⟨g2, 0, none⟩) n c2) rfl rfl (by kernel_rfl) (by kernel_rfl) (by kernel_rfl) (by kernel_rfl) (by kernel_rfl) (fun _ _ _ h => h) (Or.inl ⟨by rfl, fun w' hw' => by obtain ⟨q1, q2⟩ := hw'; go_simp⟩) hS ?_
      simp only [List.setIfInBounds_toArray, List.set_cons_zero, List.set_cons_succ]
      refine till_takeAt 22 (i := 5) (v := .int .i64 k) rfl rfl (by kernel_rfl) (by kernel_rfl) (by kernel_rfl) (by kernel_rfl) (by kernel_rfl) (fun _ _ _ h => h) (Or.inl ⟨by rfl, fun w' hw' => by obtain ⟨q1, q2⟩ := hw'; go_simp⟩) hS ?_
      simp only [List.setIfInBounds_toArray, List.set_cons_zero, List.set_cons_succ]
      refine till_takeAt 23 (i := 6) (v := .pointer (some ⟨g2, k * 3, none⟩)) rfl rfl (by kernel_rfl) (by kernel_rfl) (by kernel_rfl) (by kernel_rfl) (by kernel_rfl) (fun _ _ _ h => h) (Or.inl ⟨by rfl, fun w' hw' => by obtain ⟨q1, q2⟩ := hw'; go_simp⟩) hS ?_
      simp only [List.setIfInBounds_toArray, List.set_cons_zero, List.set_cons_succ]
      refine till_takeAt 24 (i := 7) (v := .agg (dcells x).toArray) rfl rfl (by kernel_rfl) (by kernel_rfl) (by kernel_rfl) (by kernel_rfl) (by kernel_rfl) (fun _ _ _ h => h) (yields_mid rfl 94 (.tmp 23) rfl g2 (k * 3) (by rfl) (dcells x) _ (fun w' h => h.2) Tryz.underlying94 rfl HZ.out) hS ?_
      simp only [List.setIfInBounds_toArray, List.set_cons_zero, List.set_cons_succ]
      clear hS
      refine till_one (i := 8) (by kernel_rfl) rfl rfl (fun K hK => ?_)
      unfold dcells
      go_simp
      refine hK _ _ ⟨fun h => absurd h (by omega), ?_⟩
      clear hK K
      refine till_one (i := 9) (by kernel_rfl) rfl rfl (fun K hK => ?_)
      go_simp
      refine hK _ _ ⟨fun h => absurd h (by omega), till_done (by kernel_rfl) ?_ _⟩
      clear hK K
      go_wp2
      go_roundg (n - (k + 1))
      case measure => omega
      case rel => exact ⟨k + 1, by go_num, by omega, HB.out.drew⟩
    · obtain rfl : k = n := by omega
      have HB := Lib.hid hbl
      clear hbl
      go_wp2_with fail
      go_ret
      exact ⟨rfl, HB.out⟩
end Go.Proofs.YtjimjemogbphaaaGreat.BD

namespace Go.Proofs.YtjimjemogbphaaaGreat.BD
open Go.RowKit

/-- A list that is kept: its slice, its copy's, what stood in it. -/
structure KeptI where
  v : Value
  c : Value
  xs : List Due
def KeptI.rv (x : KeptI) : RowS := ⟨94, 3, x.v, x.xs.length, cellsD x.xs⟩
def KeptI.rc (x : KeptI) : RowS := ⟨94, 3, x.c, x.xs.length, cellsD x.xs⟩
/-- All rows of a shelf: the slice of the lists, that of the copies, the lists, the copies. -/
def shelfI (hv hc : Value) (L : List KeptI) : List RowS :=
  ⟨39, 1, hv, L.length, L.map KeptI.v⟩ :: ⟨39, 1, hc, L.length, L.map KeptI.c⟩ :: (L.map KeptI.rv ++ L.map KeptI.rc)

theorem shelfI_snoc (hv hc : Value) (L : List KeptI) (x : KeptI) :
    (⟨39, 1, hv, L.length + 1, L.map KeptI.v ++ [x.v]⟩ :: ⟨39, 1, hc, L.length + 1, L.map KeptI.c ++ [x.c]⟩ :: (L.map KeptI.rv ++ L.map KeptI.rc) ++ [x.rv, x.rc]).Perm (shelfI hv hc (L ++ [x])) := by
  unfold shelfI
  simp only [List.map_append, List.map_cons, List.map_nil, List.length_append, List.length_cons, List.length_nil, List.cons_append]
  refine ((List.Perm.cons _) ((List.Perm.cons _) ?_))
  rw [List.append_assoc, List.append_assoc]
  refine List.Perm.append_left _ ?_
  exact (List.perm_append_comm (l₁ := L.map KeptI.rc) (l₂ := [x.rv, x.rc])).trans ((List.Perm.cons _) (List.perm_append_comm (l₁ := [x.rc])))

theorem Tryz.infoInts : (Tryz.prog.info? 39).map (fun i => (i.zero, i.size, i.bytes)) = some (some (.slice none 0 0), 1, 24) := by kernel_rfl

/-- What keeping leaves. -/
def KeepEndI (p : Nat) (cs : Array Value) (hv hc : Value) (L : List KeptI) (v : Value) (xs : List Due) (w w' : World) : Prop :=
  ∃ hv' hc' c, Has w' p 61 ((cs.setIfInBounds 14 hv').setIfInBounds 15 hc') ∧ Rows w' (shelfI hv' hc' (L ++ [⟨v, c, xs⟩])) ∧ p ∉ foot (shelfI hv' hc' (L ++ [⟨v, c, xs⟩])) ∧ Kept (p :: foot (shelfI hv hc L)) w w' ∧
    ∀ k ∈ foot (shelfI hv' hc' (L ++ [⟨v, c, xs⟩])), k ∈ foot (shelfI hv hc L) ∨ v.ownBlock = some k ∨ w.heap.size ≤ k

theorem row_one_cell {w : World} {base : Nat} {e : TypeId} {k : Nat} {v : Value} {n : Nat} {xs : List Value} (h : w.ownsRow base e k v n xs) : v.oneCell' = true := by
  obtain ⟨A, c, rfl⟩ := row_form h
  rfl

/-- A store into a block that is none of the rows'. -/
theorem Rows.past {w : World} {R : List RowS} (h : Rows w R) {p : Addr} (hp : p.block ∉ foot R) (u : Value) : Rows (w.setCell p u) R :=
  h.kept (F := [p.block]) ((Kept.refl _ _).setCell (by simp) u) (fun g hg e => by simp at e; subst e; exact hp hg)

theorem foot_turn {w w' : World} {r r' : RowS} {R : List RowS} (hg : Goes r.foot w r'.foot w') : ∀ k ∈ foot (r' :: R), k ∈ foot (r :: R) ∨ w.heap.size ≤ k := by
  intro k hk
  rw [foot_cons] at hk ⊢
  rcases List.mem_append.1 hk with h | h
  · exact (hg.2 k h).imp (fun h => List.mem_append.2 (.inl h)) id
  · exact .inl (List.mem_append.2 (.inr h))
theorem foot_perm {R Q : List RowS} (h : R.Perm Q) {k : Nat} : k ∈ foot R ↔ k ∈ foot Q := (h.flatMap_right _).mem_iff

/-- What stands when the list itself is in, and its copy not yet. -/
structure MidI (p : Nat) (cs : Array Value) (hv' hc : Value) (F0 : List Nat) (L : List KeptI) (v : Value) (xs : List Due) (w W : World) : Prop where
  has : Has W p 61 (cs.setIfInBounds 14 hv')
  rows : Rows W (⟨39, 1, hv', L.length + 1, L.map KeptI.v ++ [v]⟩ :: ⟨39, 1, hc, L.length, L.map KeptI.c⟩ :: (L.map KeptI.rv ++ L.map KeptI.rc))
  from_ : ∀ k ∈ foot (⟨39, 1, hv', L.length + 1, L.map KeptI.v ++ [v]⟩ :: ⟨39, 1, hc, L.length, L.map KeptI.c⟩ :: (L.map KeptI.rv ++ L.map KeptI.rc)), k ∈ F0 ∨ w.heap.size ≤ k
  kept : Kept (p :: F0) w W
  row : W.ownsRow 0 94 3 v xs.length (cellsD xs)

theorem MidI.of {p : Nat} {cs : Array Value} {hv hv' hc : Value} {L : List KeptI} {v : Value} {xs : List Due} {w w1 : World} {o : Obj} (hp : Has w p 61 cs) (hR : Rows w (shelfI hv hc L)) (hpf : p ∉ foot (shelfI hv hc L))
    (hrow : w.ownsRow 0 94 3 v xs.length (cellsD xs)) (hd : ∀ g, v.ownBlock = some g → g ≠ p ∧ g ∉ foot (shelfI hv hc L)) (hgn : Grown (w.alloc o) hv hv' w1) (hown : w1.ownsRow 0 39 1 hv' (L.length + 1) (L.map KeptI.v ++ [v])) :
    MidI p cs hv' hc (foot (shelfI hv hc L)) L v xs w (w1.setCell ⟨p, 14, none⟩ hv') := by
  have hal : Below w.heap.size w (w.alloc o) := (Below.refl _ _).alloc (Nat.le_refl _) _
  have hz := hal.size
  have hg : Goes (RowS.foot ⟨39, 1, hv, L.length, L.map KeptI.v⟩) (w.alloc o) (RowS.foot ⟨39, 1, hv', L.length + 1, L.map KeptI.v ++ [v]⟩) w1 := hgn.1
  have hRt := Rows.turn (hR.below hal) hg hown
  have hft := foot_turn (R := ⟨39, 1, hc, L.length, L.map KeptI.c⟩ :: (L.map KeptI.rv ++ L.map KeptI.rc)) hg
  have hsub : ∀ k ∈ hv.ownBlock.toList, k ∈ foot (shelfI hv hc L) := fun k hk => by
    unfold shelfI
    rw [foot_cons]
    exact List.mem_append.2 (.inl hk)
  have hpn : p ∉ hv.ownBlock.toList := fun h => hpf (hsub p h)
  have hpl := hp.inside
  have hp1 := (hp.alloc o).kept hgn.1.1 hpn
  refine ⟨hp1.put 14 hv', hRt.past (fun h => (hft p h).elim hpf (fun h => by omega)) _, fun k hk => (hft k hk).imp id (fun h => by omega), ?_, ?_⟩
  · exact (((Kept.refl _ _).alloc o).then_ hgn.1.1 (fun k hk => .inl (List.mem_cons_of_mem _ (hsub k hk)))).setCell (.inl (by simp)) _
  · refine row_kept (F := p :: hv.ownBlock.toList) hrow ((((Kept.refl _ _).alloc o).then_ hgn.1.1 (fun k hk => .inl (by simp [hk]))).setCell (.inl (by simp)) _) (fun g hg h => ?_)
    obtain ⟨h1, h2⟩ := hd g hg
    rcases List.mem_cons.1 h with rfl | h
    · exact h1 rfl
    · exact h2 (hsub g h)

theorem KeepEndI.of {p : Nat} {cs : Array Value} {hv hv' hc hc' c : Value} {L : List KeptI} {v : Value} {xs : List Due} {w W w3 w4 : World} {o : Obj} (hM : MidI p cs hv' hc (foot (shelfI hv hc L)) L v xs w W) (hF0 : ∀ k ∈ foot (shelfI hv hc L), k < w.heap.size) (hpf : p ∉ foot (shelfI hv hc L))
    (hpl : p < w.heap.size) (hvl : ∀ g, v.ownBlock = some g → g < w.heap.size) (hd : ∀ g, v.ownBlock = some g → g ≠ p ∧ g ∉ foot (shelfI hv hc L)) (hb3 : Below W.heap.size W w3) (hc3 : w3.ownsRow W.heap.size 94 3 c xs.length (cellsD xs)) (hgn : Grown (w3.alloc o) hc hc' w4)
    (hown : w4.ownsRow 0 39 1 hc' (L.length + 1) (L.map KeptI.c ++ [c])) : KeepEndI p cs hv hc L v xs w (w4.setCell ⟨p, 15, none⟩ hc') := by
  have hal : Below w3.heap.size w3 (w3.alloc o) := (Below.refl _ _).alloc (Nat.le_refl _) _
  have hz3 := hb3.size
  have hza := hal.size
  have hzw := hM.kept.size
  have hb : Below W.heap.size W (w3.alloc o) := hb3.trans (hal.mono hz3)
  have hg : Goes (RowS.foot ⟨39, 1, hc, L.length, L.map KeptI.c⟩) (w3.alloc o) (RowS.foot ⟨39, 1, hc', L.length + 1, L.map KeptI.c ++ [c]⟩) w4 := hgn.1
  have hR1 := (hM.rows.below hb).perm (List.Perm.swap _ _ _)
  have hRt := (Rows.turn hR1 hg hown).perm (List.Perm.swap _ _ _)
  have hft := foot_turn (R := ⟨39, 1, hv', L.length + 1, L.map KeptI.v ++ [v]⟩ :: (L.map KeptI.rv ++ L.map KeptI.rc)) hg
  have hfrom : ∀ k ∈ foot (⟨39, 1, hv', L.length + 1, L.map KeptI.v ++ [v]⟩ :: ⟨39, 1, hc', L.length + 1, L.map KeptI.c ++ [c]⟩ :: (L.map KeptI.rv ++ L.map KeptI.rc)), k ∈ foot (shelfI hv hc L) ∨ (w.heap.size ≤ k ∧ k < W.heap.size) ∨ (w3.alloc o).heap.size ≤ k := fun k hk => by
    rcases hft k ((foot_perm (List.Perm.swap _ _ _)).1 hk) with h | h
    · have h1 := (foot_perm (List.Perm.swap _ _ _)).1 h
      exact (hM.from_ k h1).imp id (fun h2 => .inl ⟨h2, hM.rows.lt k h1⟩)
    · exact .inr (.inr h)
  have hcsub : ∀ k ∈ hc.ownBlock.toList, k ∈ foot (shelfI hv hc L) ∨ w.heap.size ≤ k := fun k hk => hM.from_ k (by
    rw [foot_cons, foot_cons]
    exact List.mem_append.2 (.inr (List.mem_append.2 (.inl hk))))
  have hclt : ∀ k ∈ hc.ownBlock.toList, k < W.heap.size := fun k hk => hM.rows.lt k (by
    rw [foot_cons, foot_cons]
    exact List.mem_append.2 (.inr (List.mem_append.2 (.inl hk))))
  have hpl2 : p < W.heap.size := by omega
  have hpn : p ∉ hc.ownBlock.toList := fun h => (hcsub p h).elim hpf (fun h => by omega)
  have hk4 : Kept hc.ownBlock.toList W w4 := (Kept.of_below hb).trans hgn.1.1
  have hrv : RowS.on ⟨94, 3, v, xs.length, cellsD xs⟩ w4 := row_kept hM.row hk4 (fun g hg h => (hcsub g h).elim (hd g hg).2 (fun h2 => by have := hvl g hg; omega))
  have hrc : RowS.on ⟨94, 3, c, xs.length, cellsD xs⟩ w4 := row_kept (row_base0 hc3) (((Kept.refl _ _).alloc o).then_ hgn.1.1 (fun k hk => .inl hk)) (fun g hg h => by have := hclt g h; have := (hc3.lt g hg).1; omega)
  have hcl : ∀ g, c.ownBlock = some g → W.heap.size ≤ g ∧ g < w3.heap.size := fun g hg => hc3.lt g hg
  have hnew : ∀ k ∈ foot [(⟨v, c, xs⟩ : KeptI).rv, (⟨v, c, xs⟩ : KeptI).rc], v.ownBlock = some k ∨ c.ownBlock = some k := fun k hk => by
    obtain ⟨r, hr, hg⟩ := mem_foot.1 hk
    simp only [List.mem_cons, List.not_mem_nil, or_false] at hr
    rcases hr with rfl | rfl
    · exact .inl hg
    · exact .inr hg
  have hpair : Rows w4 [(⟨v, c, xs⟩ : KeptI).rv, (⟨v, c, xs⟩ : KeptI).rc] := (rows_one hrv).join (rows_one hrc) (fun g h1 h2 => by
    obtain ⟨r1, hr1, hg1⟩ := mem_foot.1 h1
    obtain ⟨r2, hr2, hg2⟩ := mem_foot.1 h2
    simp only [List.mem_cons, List.not_mem_nil, or_false] at hr1 hr2
    subst hr1 hr2
    have := hvl g hg1
    have := (hcl g hg2).1
    omega)
  have hdis : ∀ g ∈ foot (⟨39, 1, hv', L.length + 1, L.map KeptI.v ++ [v]⟩ :: ⟨39, 1, hc', L.length + 1, L.map KeptI.c ++ [c]⟩ :: (L.map KeptI.rv ++ L.map KeptI.rc)), g ∉ foot [(⟨v, c, xs⟩ : KeptI).rv, (⟨v, c, xs⟩ : KeptI).rc] := fun g h1 h2 => by
    rcases hnew g h2 with h | h
    · have := hvl g h
      rcases hfrom g h1 with h3 | h3 | h3
      · exact (hd g h).2 h3
      · omega
      · omega
    · have := hcl g h
      rcases hfrom g h1 with h3 | h3 | h3
      · have := hF0 g h3
        omega
      · omega
      · omega
  have hall := hRt.join hpair hdis
  have hperm := shelfI_snoc hv' hc' L ⟨v, c, xs⟩
  have hpos : ∀ k ∈ foot (shelfI hv' hc' (L ++ [⟨v, c, xs⟩])), k ∈ foot (shelfI hv hc L) ∨ v.ownBlock = some k ∨ w.heap.size ≤ k := fun k hk => by
    have h1 := (foot_perm hperm).2 hk
    rw [foot_append] at h1
    rcases List.mem_append.1 h1 with h | h
    · rcases hfrom k h with h3 | h3 | h3
      · exact .inl h3
      · exact .inr (.inr h3.1)
      · exact .inr (.inr (by omega))
    · rcases hnew k h with h3 | h3
      · exact .inr (.inl h3)
      · have := hcl k h3
        exact .inr (.inr (by omega))
  have hpx : p ∉ foot (shelfI hv' hc' (L ++ [⟨v, c, xs⟩])) := fun h => by
    rcases hpos p h with h1 | h1 | h1
    · exact hpf h1
    · exact (hd p h1).1 rfl
    · omega
  have hp4 := (hM.has.below hb hpl2).kept hgn.1.1 hpn
  refine ⟨hv', hc', c, hp4.put 15 hc', (hall.perm hperm).past hpx _, hpx, ?_, hpos⟩
  exact (hM.kept.then_ hk4 (fun k hk => (hcsub k hk).imp (fun h => List.mem_cons_of_mem _ h) id)).setCell (.inl (by simp)) _


end Go.Proofs.YtjimjemogbphaaaGreat.BD
