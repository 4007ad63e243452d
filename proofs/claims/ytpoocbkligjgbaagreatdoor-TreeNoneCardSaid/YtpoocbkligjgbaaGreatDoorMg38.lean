/-
  A walk up from a tree that is one leaf: there is no branch on it. What a Put of over leaves: its chain, read back as it was put; how many pages there are. A tree that is one leaf: what a Put and a Delete make of it, in numbers. Put and Delete of a tree that is one leaf: the change that they make. Delete of a tree that is one leaf: the change that it makes. Put, Delete and Get of a tree that is one leaf.
-/
import Derived.Test.YtpoocbkligjgbaaGreatDoorMg36
import Derived.Test.YtpoocbkligjgbaaGreatDoorMg37
import Derived.Test.YtpoocbkligjgbaaGreatDoorMg28
namespace Go.Proofs.YtpoocbkligjgbaaGreatDoor
open Go.RowKit Go.Sort Go.Lib Go.Shelf

section
variable {w : World}
set_option maxRecDepth 100000 in
set_option maxHeartbeats 2000000 in
theorem chtop_one (cb : Option Addr) (x : BR.Chd) (A : Option Addr) (cc : Nat) (h : Int) (hkr : w.ownsRow 0 204 2 (.slice A 1 cc) 1 (BR.ilist [x])) :
    Calls Tryz.prog 141 #[.pointer cb, .slice A 1 cc, .int .i64 h] w fun e w' => e = .returned (.tuple #[.int .i64 x.page, .int .i64 0]) ∧ w = w' := by
  obtain ⟨A', c', hv, _, _, _, hc⟩ := BR.row_readsIt (l := [x]) hkr
  obtain ⟨g_, off, rfl, _, hit⟩ := hc (by simp)
  simp only [Value.slice.injEq] at hv
  obtain ⟨rfl, -, rfl⟩ := hv
  have q1 := (hit 0 (by simp)).2
  simp at q1
  clear hkr hc hit
  go_enter Tryz.func141, Tryz.ntmps141
  go_wp2_with fail
  go_loopg [1, 2, 8] 0 (fun g kv hv e8 wr => kv = .slice (some ⟨g_, off, none⟩) 1 cc ∧ hv = .int .i64 h ∧ w = wr)
  case atStart => exact ⟨rfl, rfl, rfl⟩
  case round =>
    obtain ⟨rfl, rfl, rfl⟩ := hrel
    go_wp2_with fail
    go_ret2
    exact ⟨rfl, rfl⟩
end

/-- No rounds over no steps. -/
theorem backS_stops0 (F : Fence) (n : Nat) (hf : F.fn 199) (hro : F.round = none) (hn : 1 ≤ n) (Bs : Nat) (w : World) (hBs : Boxed w Bs 119 (.slice none 0 0)) (Kp : World → World → Prop) :
    SeqStopsK F n Tryz.prog 199 #[.pointer (some ⟨Bs, 0, none⟩)] (fun x : Empty => x.elim) Kp (fun _ => True) (fun _ => False) 0 w := by
  intro l J Jx W hW hJ _ hY h0
  refine (backS1_in F n hf hro hn l Bs Bs 0 0 0 none (fun _ => (⟨0, [], 0⟩, .slice none 0 0)) (by omega) (by omega) (fun i hi => absurd hi (by omega)) (fun pre W => pre = [] ∧ J [] W) (fun _ _ => False) (fun pre W q h => ⟨h.1, hJ [] W _ none h.2 ⟨rfl, rfl, rfl, Nat.le_refl _, fun _ _ _ => rfl⟩ (fun r e => by cases e)⟩) (fun pre k W1 h hlt => absurd hlt (by omega)) W ((hW.block Bs hBs.lt).trans hBs) (fun i hi => absurd hi (by omega)) ⟨rfl, h0⟩).mono ?_
  rintro e W' ⟨he, h | ⟨k, hk, h⟩⟩
  · exact ⟨he, .inl ⟨[], trivial, h.2⟩⟩
  · exact h.elim

attribute [local go_sem] Oper.semAt_some

theorem below_turnS {W5 W Y : World} {row : Option Nat} (h : Below W5.heap.size W5 W) (hg : W.grownBy Y row) (hrow : ∀ r, row = some r → W5.heap.size ≤ r ∧ ∃ o : Obj, W.heap[r]? = some o ∧ o.isCells = false) : Below W5.heap.size W5 Y :=
  h.trans ((Kept.of_grown (F := row.toList) hg (fun k hk => by simp [hk])).below h.size (fun k hk => (hrow k (by simpa using hk)).1))
theorem boxS_below {W W' : World} {B : Nat} {t : TypeId} {v : Value} (h : Boxed W B t v) (hb : Below W.heap.size W W') : Boxed W' B t v := (hb.block B h.lt).trans h

set_option maxRecDepth 1000000 in
set_option maxHeartbeats 4000000 in
theorem chup_nil {w : World} (cb : Nat) (x : BR.Chd) (A : Option Addr) (cc : Nat) (hkr : w.ownsRow 0 204 2 (.slice A 1 cc) 1 (BR.ilist [x])) :
    Calls Tryz.prog 90 #[.pointer (some ⟨cb, 0, none⟩), .slice none 0 0, .slice A 1 cc] w fun e w' => e = .returned (.tuple #[.int .i64 x.page, .int .i64 0]) ∧ Below w.heap.size w w' := by
  refine (callsIn_wide (n := 3)).1 ?_
  have HKR := Lib.hid hkr
  clear hkr
  refine callsIn_of_wp_marks Tryz.func90 rfl trivial ?_ rfl
  simp only [Tryz.ntmps90, List.size_toArray, List.length_cons, List.length_nil, Nat.reduceAdd, Nat.reduceSub, Array.replicate_succ, Array.replicate_zero, List.push_toArray, List.append_toArray, List.nil_append, List.cons_append]
  gi_wp2
  refine ⟨trivial, ?_⟩
  refine (backS_in Fence.wide _ trivial rfl _ _ _ _).mono ?_
  rintro e w3 ⟨rfl, rfl⟩
  gi_wp2
  obtain ⟨W5, hW5⟩ : ∃ W5, (((((w.alloc (.cells #[.pointer (some ⟨cb, 0, none⟩)] 163)).alloc (.cells #[.slice A 1 cc] 167)).alloc (.cells #[.int .i64 0] 3)).alloc (.cells #[.int .i64 0] 34)).alloc (.cells #[.slice none 0 0] 119)) = W5 := ⟨_, rfl⟩
  have x0 : Boxed W5 w.heap.size 163 (.pointer (some ⟨cb, 0, none⟩)) := by rw [← hW5]; exact ((((Boxed.new w _ _).alloc _).alloc _).alloc _).alloc _
  have x1 : Boxed W5 (w.heap.size + 1) 167 (.slice A 1 cc) := by rw [← hW5]; have := (((Boxed.new (w.alloc (.cells #[.pointer (some ⟨cb, 0, none⟩)] 163)) 167 (.slice A 1 cc)).alloc (.cells #[.int .i64 0] 3)).alloc (.cells #[.int .i64 0] 34)).alloc (.cells #[.slice none 0 0] 119); simpa using this
  have x2 : Boxed W5 (w.heap.size + 2) 3 (.int .i64 0) := by rw [← hW5]; have := ((Boxed.new ((w.alloc (.cells #[.pointer (some ⟨cb, 0, none⟩)] 163)).alloc (.cells #[.slice A 1 cc] 167)) 3 (.int .i64 0)).alloc (.cells #[.int .i64 0] 34)).alloc (.cells #[.slice none 0 0] 119); simpa using this
  have x3 : Boxed W5 (w.heap.size + 3) 34 (.int .i64 0) := by rw [← hW5]; have := (Boxed.new (((w.alloc (.cells #[.pointer (some ⟨cb, 0, none⟩)] 163)).alloc (.cells #[.slice A 1 cc] 167)).alloc (.cells #[.int .i64 0] 3)) 34 (.int .i64 0)).alloc (.cells #[.slice none 0 0] 119); simpa using this
  have x4 : Boxed W5 (w.heap.size + 4) 119 (.slice none 0 0) := by rw [← hW5]; have := Boxed.new ((((w.alloc (.cells #[.pointer (some ⟨cb, 0, none⟩)] 163)).alloc (.cells #[.slice A 1 cc] 167)).alloc (.cells #[.int .i64 0] 3)).alloc (.cells #[.int .i64 0] 34)) 119 (.slice none 0 0); simpa using this
  have hs5 : W5.heap.size = w.heap.size + 5 := by rw [← hW5]; simp
  have hB5 : Below w.heap.size w W5 := by
    rw [← hW5]
    exact (((((Below.refl _ w).alloc (Nat.le_refl _) _).alloc (by simp) _).alloc (by simp; omega) _).alloc (by simp; omega) _).alloc (by simp; omega) _
  rw [hW5]
  clear hW5
  simp only [Nat.add_assoc, Nat.reduceAdd]
  have HX := Lib.hid (And.intro x0 (And.intro x1 (And.intro x2 (And.intro x3 (And.intro hB5 hs5)))))
  refine wpIn_rangeFunc_ownH (α := Empty) rfl (by omega) (gf := 199) (lb := #[.pointer (some ⟨w.heap.size + 4, 0, none⟩)]) rfl trivial (enters_of Tryz.func199 (by kernel_rfl) rfl)
    (backS_stops0 Fence.wide (3 - 1) trivial rfl (by omega) (w.heap.size + 4) W5 x4 (fun _ _ => True)) (fun _ _ => trivial) (fun _ _ _ _ _ _ _ _ => trivial) (Below.refl _ _) (fun x => x.elim)
    (fun pre W => Below W5.heap.size W5 W) (fun _ _ _ => False) (fun pre W Y row h hg hrow => below_turnS h hg hrow) (fun c pre W Y row h _ _ => h) (Below.refl _ _) (fun x _ _ => True) (fun x => x.elim) ?assign ?body ?done ?stop
  case assign => intro l pre x; exact x.elim
  case body => intro l pre x; exact x.elim
  case stop => intro D c pre W _ h; exact h.elim
  case done =>
    intro D xs W hD _ hI hdef
    obtain ⟨x0, x1, x2, x3, hB5, hs5⟩ := HX.out
    have b0 := boxS_below x0 hI
    have b1 := boxS_below x1 hI
    have b2 := boxS_below x2 hI
    have b3 := boxS_below x3 hI
    have c0 := b0.cell
    have c1 := b1.cell
    have hkr : W.ownsRow 0 204 2 (.slice A 1 cc) 1 (BR.ilist [x]) := row_kept (row_kept HKR.out (F := []) (Kept.of_below hB5) (by simp)) (F := []) (Kept.of_below hI) (by simp)
    have htop := chtop_one (some ⟨cb, 0, none⟩) x A cc 1 hkr
    have H5 := Lib.hid (And.intro b2 (And.intro b3 (And.intro (hB5.trans (hI.mono (by omega))) hkr)))
    clear x0 x1 x2 x3 hB5 hs5 hI b0 b1 b2 b3 hkr
    gi_wp2
    refine ⟨trivial, ?_⟩
    refine (callsIn_wide.2 htop).mono ?_
    rintro e w7 ⟨rfl, rfl⟩
    obtain ⟨b2, b3, hbw, hkr⟩ := H5.out
    have j2 := b2.cell
    have j3 := b3.cell
    have i2 := b2.frozen
    have i3 := b3.frozen
    clear htop hkr
    gi_wp2
    have hDn : D ≠ w.heap.size + 2 ∧ D ≠ w.heap.size + 3 := by have := HX.out.2.2.2.2.2; omega
    have hdef2 : ((W.setCell ⟨w.heap.size + 2, 0, none⟩ (.int .i64 x.page)).setCell ⟨w.heap.size + 3, 0, none⟩ (.int .i64 0)).heap[D]? = some (.deferred (some [])) :=
      (Below.heap_setCell _ _ _ D hDn.2).trans ((Below.heap_setCell _ _ _ D hDn.1).trans hdef)
    have p2 := (b2.set (.int .i64 x.page)).other (B' := w.heap.size + 3) (by omega) (.int .i64 0)
    have p3 := (b3.other (B' := w.heap.size + 2) (by omega) (.int .i64 x.page)).set (.int .i64 0)
    have hbw2 := (hbw.setCell (p := ⟨w.heap.size + 2, 0, none⟩) (by simp) (.int .i64 x.page)).setCell (p := ⟨w.heap.size + 3, 0, none⟩) (by simp) (.int .i64 0)
    generalize (W.setCell ⟨w.heap.size + 2, 0, none⟩ (.int .i64 x.page)).setCell ⟨w.heap.size + 3, 0, none⟩ (.int .i64 0) = W2 at *
    have o2 := p2.kept (grownBy_putObj' _ D (.deferred none)) (by simp; omega)
    have o3 := p3.kept (grownBy_putObj' _ D (.deferred none)) (by simp; omega)
    have e2 := o2.cell
    have e3 := o3.cell
    have hDw : w.heap.size ≤ D := by have := HX.out.2.2.2.2.2; omega
    refine ⟨by simp, .inl ⟨_, _, rfl, run_takeDeferred hdef2, ?_⟩⟩
    refine ⟨.tuple #[.int .i64 x.page, .int .i64 0], ?_, rfl, ?_⟩
    · simp [results, Tryz.f90, go_sem, e2, e3]
    · exact hbw2.trans ((Kept.of_grown (F := [D]) (grownBy_putObj' W2 D (.deferred none)) (fun k hk => by simp at hk; simp [hk])).below hbw2.size (by simpa using hDw))
end Go.Proofs.YtpoocbkligjgbaaGreatDoor

namespace Go.Proofs.YtpoocbkligjgbaaGreatDoor
open Go.RowKit Go.Sort Go.Lib

/-- How many pages can be made still. -/
def avail (s : PgS) : Nat := s.spare.length + (s.dev.most - s.pages).toNat
theorem avail_mk {s : PgS} (hy : Yg s) (k n : Int) (t : ByteArray) (h : avail s ≠ 0) : avail (mkS s k n t) + 1 = avail s ∧ (0 < s.spare.length → (mkS s k n t).pages = s.pages ∧ (mkS s k n t).spare.length + 1 = s.spare.length) := by
  have hm := hy.most
  unfold avail at h ⊢
  unfold mkS
  by_cases c : s.spare = []
  · rw [if_pos c]
    refine ⟨?_, fun h5 => by rw [c] at h5; simp at h5⟩
    show s.spare.length + (s.dev.most - (s.pages + 1)).toNat + 1 = _
    rw [c] at h ⊢
    simp at h ⊢
    omega
  · rw [if_neg c]
    have h1 : cand s ∈ s.spare := (candL_spec (q := s.pages) c).1
    have h2 : (s.spare.erase (cand s)).length + 1 = s.spare.length := by
      have := List.length_erase_of_mem h1
      have : 0 < s.spare.length := List.length_pos_of_mem h1
      omega
    refine ⟨?_, fun _ => ⟨rfl, h2⟩⟩
    show (s.spare.erase (cand s)).length + (s.dev.most - s.pages).toNat + 1 = _
    omega


/-- What a Put leaves of the pages that were there. -/
structure PuIn (s : PgS) (st : PuS) : Prop where
  keeps : ∀ x, (s.H x).fate = 1 → st.s.H x = s.H x
  fate : ∀ x, (st.s.H x).fate = 1 ↔ (s.H x).fate = 1 ∨ x ∈ st.made
  fresh : ∀ x ∈ st.made, (s.H x).fate ≠ 1
theorem PuIn.new (s : PgS) : PuIn s ⟨0, 0, [], s⟩ := ⟨fun _ _ => rfl, fun x => by simp, by simp⟩
theorem PuIn.step {s : PgS} {m : Nat} {st : PuS} (h : PuIn s st) (ho : PuOK s m st) (v : ByteArray) (k : Nat) : PuIn s (puStep v st k) := by
  unfold puStep
  split
  · exact h
  · split
    · have hcf := cand_fresh ho.yg
      have hcs : (s.H (cand st.s)).fate ≠ 1 := fun e => hcf ((h.fate _).2 (.inl e))
      refine ⟨fun x hx => ?_, fun x => ?_, fun x hx => ?_⟩
      · show (mkS st.s 4 st.next (pce v k)).H x = _
        rw [mkS_at ho.yg _ _ _ _ (fun e => hcs (e ▸ hx))]
        exact h.keeps x hx
      · show ((mkS st.s 4 st.next (pce v k)).H x).fate = 1 ↔ _ ∨ x ∈ st.made ++ [cand st.s]
        by_cases e : x = cand st.s
        · rw [e, mkS_new ho.yg]
          simp
        · rw [mkS_at ho.yg _ _ _ _ e, h.fate]
          simp [e]
      · have hx' : x ∈ st.made ++ [cand st.s] := hx
        rcases List.mem_append.1 hx' with h1 | h1
        · exact h.fresh x h1
        · obtain rfl : x = cand st.s := by simpa using h1
          exact hcs
    · exact ⟨h.keeps, h.fate, h.fresh⟩

/-- The page that was made ahead of the j-th one. -/
def prevOf (l : List Int) (j : Nat) : Int := if j = 0 then 0 else l.getD (j - 1) 0
theorem prevOf_append (l : List Int) (x : Int) (j : Nat) (h : j ≤ l.length) : prevOf (l ++ [x]) j = prevOf l j := by
  unfold prevOf
  split
  · rfl
  · simp only [List.getD]
    rw [List.getElem?_append_left (by omega)]
/-- What stands in the pages that were made. -/
structure PuCh (v : ByteArray) (pre : List Nat) (st : PuS) : Prop where
  len : st.e = 0 → st.made.length = pre.length
  next : st.e = 0 → st.next = prevOf st.made st.made.length
  at_ : ∀ j, j < st.made.length → st.s.H (st.made.getD j 0) = ⟨1, 4, prevOf st.made j, pce v (pre.getD j 0)⟩
theorem PuCh.new (v : ByteArray) (s : PgS) : PuCh v [] ⟨0, 0, [], s⟩ := ⟨fun _ => rfl, fun _ => rfl, fun j hj => by simp at hj⟩
theorem PuCh.step {v : ByteArray} {s : PgS} {m : Nat} {pre : List Nat} {st : PuS} (h : PuCh v pre st) (hl : st.made.length ≤ pre.length) (ho : PuOK s m st) (k : Nat) : PuCh v (pre ++ [k]) (puStep v st k) := by
  have hpre : ∀ j, j < st.made.length → (pre ++ [k]).getD j 0 = pre.getD j 0 := fun j hj => by
    simp only [List.getD]
    rw [List.getElem?_append_left (by omega)]
  unfold puStep
  by_cases he : st.e = 0
  · rw [if_neg (by rw [he]; simp)]
    split
    · have hcf := cand_fresh ho.yg
      have hlen := h.len he
      refine ⟨fun _ => by simp [hlen], fun _ => ?_, fun j hj => ?_⟩
      · show cand st.s = prevOf (st.made ++ [cand st.s]) (st.made ++ [cand st.s]).length
        unfold prevOf
        rw [if_neg (by simp)]
        simp
      · show (mkS st.s 4 st.next (pce v k)).H ((st.made ++ [cand st.s]).getD j 0) = ⟨1, 4, prevOf (st.made ++ [cand st.s]) j, _⟩
        have hj' : j < st.made.length + 1 := by simpa using hj
        by_cases e : j < st.made.length
        · have h1 : (st.made ++ [cand st.s]).getD j 0 = st.made.getD j 0 := by
            simp only [List.getD]
            rw [List.getElem?_append_left e]
          have h2 : st.made.getD j 0 ∈ st.made := by
            simp only [List.getD]
            rw [List.getElem?_eq_getElem e]
            exact List.getElem_mem e
          rw [h1, mkS_at ho.yg _ _ _ _ (fun e2 => hcf (e2 ▸ ho.fate _ h2)), prevOf_append _ _ _ (by omega), hpre j e]
          exact h.at_ j e
        · obtain rfl : j = st.made.length := by omega
          have h1 : (st.made ++ [cand st.s]).getD st.made.length 0 = cand st.s := by simp
          have h2 : (pre ++ [k]).getD st.made.length 0 = k := by rw [hlen]; simp
          rw [h1, mkS_new ho.yg, prevOf_append _ _ _ (Nat.le_refl _), h2, ← h.next he]
    · exact ⟨fun e => absurd e (by assumption), fun e => absurd e (by assumption), fun j hj => by
        show st.s.H (st.made.getD j 0) = ⟨1, 4, prevOf st.made j, pce v ((pre ++ [k]).getD j 0)⟩
        rw [hpre j hj]; exact h.at_ j hj⟩
  · rw [if_pos he]
    exact ⟨fun e => absurd e he, fun e => absurd e he, fun j hj => by rw [hpre j hj]; exact h.at_ j hj⟩


/-- The pages ids bear v, the first one of its chain last. -/
def Chain (s : PgS) (v : ByteArray) (ids : List Int) : Prop := ids.length = nP v.size ∧ ids.Nodup ∧ ∀ j, j < ids.length → s.H (ids.getD j 0) = ⟨1, 4, prevOf ids j, pce v (nP v.size - 1 - j)⟩
theorem Chain.of {s s' : PgS} {v : ByteArray} {ids : List Int} (h : Chain s v ids) (hk : ∀ x ∈ ids, s'.H x = s.H x) : Chain s' v ids := ⟨h.1, h.2.1, fun j hj => by
  rw [hk _ (by simp only [List.getD]; rw [List.getElem?_eq_getElem hj]; exact List.getElem_mem hj)]
  exact h.2.2 j hj⟩
theorem Chain.fate {s : PgS} {v : ByteArray} {ids : List Int} (h : Chain s v ids) : ∀ x ∈ ids, (s.H x).fate = 1 := fun x hx => by
  obtain ⟨j, hj, rfl⟩ := List.getElem_of_mem hx
  have := h.2.2 j hj
  simp only [List.getD] at this
  rw [List.getElem?_eq_getElem hj] at this
  simp at this
  rw [this]



theorem avail_new (most : Int) (h1 : 2 ≤ most) : (avail (newPg (longer (newS most) 2) [] 0 [] [] 2 1) : Int) = most - 2 := by
  show (((0 : Nat) + (most - 2).toNat : Nat) : Int) = most - 2
  omega
end Go.Proofs.YtpoocbkligjgbaaGreatDoor

namespace Go.Proofs.YtpoocbkligjgbaaGreatDoor
open Go.RowKit Go.Sort Go.Lib

theorem mkE_k {s : PgS} (hy : Yg s) {k : Int} {t : ByteArray} (h1 : 1 ≤ k ∧ k < 256) (ht : t.size ≤ 240) : mkE s k 0 t = if avail s = 0 then 10 else 0 := by
  obtain ⟨a1, a2, a3, a4⟩ := hy.cnd
  have hm := hy.most
  have hf := hy.few
  have hse : sealE (cand s) k 0 t.size = 0 := by
    unfold sealE
    rw [if_pos (by unfold SealOK; omega), if_pos ht]
  unfold mkE
  rw [if_neg (by rw [hse]; simp)]
  unfold avail
  by_cases c : s.spare = [] ∧ s.pages = s.dev.most
  · rw [if_pos c, if_pos (by rw [c.1, c.2]; simp)]
  · rw [if_neg c, if_neg]
    intro h
    have h5 : s.spare.length = 0 := by omega
    exact c ⟨List.eq_nil_of_length_eq_zero h5, by omega⟩

/-- The tree at r is one leaf of the items l. -/
structure Leaf1 (s : PgS) (r : Int) (l : List Itm) : Prop where
  at_ : s.H r = ⟨1, 2, 0, bodyI l⟩
  ok : OKL l
  fits : sz l ≤ 240
theorem bodyI_list {l : List Itm} (h : OKL l) (hs : sz l ≤ 240) : (bodyI l).data.toList = leafB l := by
  unfold bodyI putB
  rw [if_pos ⟨h, hs⟩]
theorem bodyI_size {l : List Itm} (h : OKL l) (hs : sz l ≤ 240) : (bodyI l).size = sz l := by
  have e : (bodyI l).data.toList.length = (bodyI l).size := by simp
  rw [← e, bodyI_list h hs]
  rfl
section
variable {s : PgS} {r : Int} {l : List Itm}
theorem Leaf1.rd (h : Leaf1 s r l) (hy : Yg s) : rdE s r = 0 := by
  have hf : (s.H r).fate = 1 := by rw [h.at_]
  rcases hy.rd r with ⟨h1, _⟩ | ⟨h1, h2⟩ | ⟨h1, h2, _⟩
  · exact h1
  · rw [hy.out r h2] at hf; simp at hf
  · rw [h2] at hf; simp at hf
theorem Leaf1.ld (h : Leaf1 s r l) (hy : Yg s) : ldN s r 1 = some ⟨l, []⟩ := by
  have e : leafOf (bodyI l).data.toList = some l := leafOf_some ⟨h.ok, h.fits, (bodyI_list h.ok h.fits).symm⟩
  unfold ldN ldO opn
  rw [if_pos (h.rd hy), h.at_]
  simp [e, may]
theorem Leaf1.dn (h : Leaf1 s r l) (hy : Yg s) (key : ByteArray) : dn s r key = ⟨0, [], r, l⟩ := by
  unfold Go.Proofs.YtpoocbkligjgbaaGreatDoor.dn
  show dnGo s key (29 + 1) 1 r [] = _
  unfold dnGo
  rw [h.ld hy]
  rfl
theorem partsI_one {l : List Itm} (h : OKL l) (hs : sz l ≤ 240) : partsI l = [l] := by
  unfold partsI
  cases hl : l.length with
  | zero => rfl
  | succ n => unfold ptI; rw [if_pos (.inr ⟨h, hs⟩)]
theorem pgE_ok {c : ChS} (hy : Yg c.s) {k : Int} {t : ByteArray} (h1 : 1 ≤ k ∧ k < 256) (ht : t.size ≤ 240) (ha : avail c.s ≠ 0) : pgE c k t 0 = 0 := by
  unfold pgE
  rw [if_neg (by simp), mkE_k hy h1 ht, if_neg ha]
theorem leavesT_one {c : ChS} (hy : Yg c.s) {l : List Itm} (h : OKL l) (hs : sz l ≤ 240) (ha : avail c.s ≠ 0) :
    leavesT c l = ⟨0, { c with s := mkS c.s 2 0 (bodyI l), made := c.made ++ [cand c.s] }, [⟨⟨#[]⟩, cand c.s⟩]⟩ := by
  have he : putE l = 0 := by unfold putE; rw [if_pos h, if_pos hs]
  have h1 : pgE c 2 (bodyI l) 0 = 0 := pgE_ok hy (by omega) (by rw [bodyI_size h hs]; exact hs) ha
  unfold leavesT lvL
  rw [partsI_one h hs]
  show lvStep ⟨0, c, []⟩ l = _
  unfold lvStep pgT
  rw [he]
  simp [h1]
theorem leave_none (s : PgS) {x : Itm} (h : x.over = 0) : leaveE s x = 0 ∧ leaveL s x = [] := by unfold leaveE leaveL; rw [if_pos h, if_pos h]; exact ⟨rfl, rfl⟩
theorem Leaf1.put (h : Leaf1 s r l) (hy : Yg s) {key v : ByteArray} (hv : v.size ≤ 60) (ho : (itemAt l key).over = 0) (hok : OKL (setL l ⟨key, v, 0, 0⟩)) (hs : sz (setL l ⟨key, v, 0, 0⟩) ≤ 240) (ha : avail s ≠ 0) :
    putT ⟨s, [], []⟩ r key v = ⟨0, cand s, ⟨mkS s 2 0 (bodyI (setL l ⟨key, v, 0, 0⟩)), [cand s], [r]⟩⟩ := by
  obtain ⟨e1, e2⟩ := leave_none s ho
  unfold putT
  simp only [h.dn hy, e1, e2, leaveT, newE, newT, newI, hv, if_true, ne_eq, not_true, if_false, List.map_nil, List.append_nil, List.nil_append]
  rw [leavesT_one (c := ⟨s, [], [r]⟩) hy hok hs ha]
  rfl
/-- Behind it: the pager, and the new leaf. -/
theorem leaf1_end {l l' : List Itm} (h : Leaf1 s r l) (hy : Yg s) (hok : OKL l') (hs : sz l' ≤ 240) (ha : avail s ≠ 0) (hn : s.n < 900000) :
    endS ⟨0, cand s, ⟨mkS s 2 0 (bodyI l'), [cand s], [r]⟩⟩ = drS (mkS s 2 0 (bodyI l')) r ∧ Yg (mkS s 2 0 (bodyI l')) ∧ Yg (drS (mkS s 2 0 (bodyI l')) r) ∧ ((mkS s 2 0 (bodyI l')).H r).fate = 1 ∧
      Leaf1 (drS (mkS s 2 0 (bodyI l')) r) (cand s) l' ∧ (drS (mkS s 2 0 (bodyI l')) r).n = s.n + 2 ∧ avail (drS (mkS s 2 0 (bodyI l')) r) = avail s := by
  have hm : mkE s 2 0 (bodyI l') = 0 := by rw [mkE_k hy (by omega) (by rw [bodyI_size hok hs]; exact hs), if_neg ha]
  have hy1 := hy.made hm
  have hcf := cand_fresh hy
  have hrf : (s.H r).fate = 1 := by rw [h.at_]
  have hne : r ≠ cand s := fun e => hcf (e ▸ hrf)
  have hr1 : ((mkS s 2 0 (bodyI l')).H r).fate = 1 := by rw [mkS_at hy _ _ _ _ hne]; exact hrf
  refine ⟨rfl, hy1, hy1.dropped hr1, hr1, ⟨?_, hok, hs⟩, ?_, ?_⟩
  · show (upd (mkS s 2 0 (bodyI l')).H r (chg0 3)) (cand s) = _
    rw [upd_other _ _ (fun e => hne e.symm), mkS_new hy]
  · show (mkS s 2 0 (bodyI l')).n + 1 = _
    rw [mkS_n]
  · obtain ⟨a1, _⟩ := avail_mk hy 2 0 (bodyI l') ha
    have : avail (drS (mkS s 2 0 (bodyI l')) r) = avail (mkS s 2 0 (bodyI l')) + 1 := by
      show (r :: (mkS s 2 0 (bodyI l')).spare).length + _ = _
      unfold avail
      simp
      show _ + ((drS (mkS s 2 0 (bodyI l')) r).dev.most - (drS (mkS s 2 0 (bodyI l')) r).pages).toNat = _
      show _ + ((mkS s 2 0 (bodyI l')).dev.most - (mkS s 2 0 (bodyI l')).pages).toNat = _
      omega
    omega
end
end Go.Proofs.YtpoocbkligjgbaaGreatDoor

namespace Go.Proofs.YtpoocbkligjgbaaGreatDoor
open Go.RowKit Go.Sort Go.Lib

section
variable {cb p pd pf b : Nat} {s : PgS} {F : List Nat} {w : World} {root : Int} {l : List Itm}

/-- The way down a tree that is one leaf. -/
theorem down_one (key : ByteArray) (hid : IsInt root) (hy : Yg s) (hl : Leaf1 s root l) (h : PgIs p pd pf b s F w) :
    Calls Tryz.prog 63 #[.pointer (some ⟨p, 0, none⟩), .int .i64 root, .string key] w fun e w' => ∃ A c, e = .returned (.tuple #[.agg #[.slice none 0 0, .int .i64 root, .slice A l.length c], .int .i64 0]) ∧ w'.ownsRow w.heap.size 126 4 (.slice A l.length c) l.length (ilist l) ∧ Below w.heap.size w w' := by
  refine (down_any root key hid hy h).mono ?_
  rintro e w' ⟨⟨vs, A, c, rfl, _, h2, _, h4⟩ | ⟨h1, _⟩, hb⟩
  · rw [hl.dn hy key] at h2 h4
    rw [h2 rfl, hl.dn hy key]
    exact ⟨A, c, rfl, h4, hb⟩
  · rw [hl.dn hy key] at h1
    exact absurd rfl h1

set_option maxRecDepth 100000 in
set_option maxHeartbeats 8000000 in
theorem chput_one (key v : ByteArray) (hid : IsInt root) (hy : Yg s) (hl : Leaf1 s root l) (hv : v.size ≤ 60) (hk : key.size ≤ 40) (ho : (itemAt l key).over = 0) (hok : OKL (setL l ⟨key, v, 0, 0⟩)) (hs : sz (setL l ⟨key, v, 0, 0⟩) ≤ 240) (ha : avail s ≠ 0) (hn : s.n ≤ 900000) (h : ChAt cb p pd pf b ⟨s, [], []⟩ F w) :
    Calls Tryz.prog 43 #[.pointer (some ⟨cb, 0, none⟩), .int .i64 root, .string key, .string v] w fun e w' => e = .returned (.tuple #[.int .i64 (cand s), .int .i64 0]) ∧ ∃ F', ChAt cb p pd pf b ⟨mkS s 2 0 (bodyI (setL l ⟨key, v, 0, 0⟩)), [cand s], [root]⟩ F' w' ∧ Goes F w F' w' := by
  obtain ⟨v1, v2, F0, hp, rfl⟩ := h
  have q0 := hp.has.cell 0
  simp at q0
  have hdn := down_one key hid hy hl hp.pg
  have HP := Lib.hid (And.intro (show ChAt cb p pd pf b ⟨s, [], []⟩ (chF cb v1 v2 F0) w from ⟨v1, v2, F0, hp, rfl⟩) (And.intro hy (And.intro hl (And.intro hv (And.intro hk (And.intro ho (And.intro hok (And.intro hs (And.intro ha hn)))))))))
  clear hp hy hl hv hk ho hok hs ha hn
  obtain ⟨y, hyv⟩ : ∃ y, cand s = y := ⟨_, rfl⟩
  obtain ⟨s1, hs1⟩ : ∃ s1, mkS s 2 0 (bodyI (setL l ⟨key, v, 0, 0⟩)) = s1 := ⟨_, rfl⟩
  rw [hyv, hs1]
  have HY := Lib.hid (And.intro hyv hs1)
  clear hyv hs1
  go_enter Tryz.func43, Tryz.ntmps43
  go_wp2_with fail
  refine hdn.mono ?_
  rintro e w1 ⟨A, c, rfl, hr1, hb1⟩
  obtain ⟨hc, hy, hl, hv, hk, ho, hok, hs, ha, hn⟩ := HP.out
  have hba := alloc_below (w := w1) (.cells #[.slice none 0 0, .int .i64 root, .slice A l.length c] 122)
  have hX := Has.made w1 122 #[.slice none 0 0, .int .i64 root, .slice A l.length c]
  have hb2 := hb1.trans (hba.mono hb1.size)
  have hr2 := row_lower (row_below hr1 hba) (Nat.zero_le _)
  have hlv := chleave_one A c root l key hl.ok hl.fits hr2 ho (by simp) (hc.below hb2)
  have H1 := Lib.hid (And.intro (goes_below (G := chF cb v1 v2 F0) hb2) (And.intro hr2 (And.intro hX ((hc.below hb2).types hy))))
  clear hc hy hl ho hok hs ha hn hb1 hba hb2 hr1 hr2 hX hdn
  go_wp2_with fail
  refine hlv.mono ?_
  rintro e w2 ⟨rfl, F2, hc2, hg2⟩
  obtain ⟨hg1, hr1, hX, hT⟩ := H1.out
  have hr2 := row_typed hT (by decide) hr1 hg2.1
  have hX2 := has_typed hT (by decide) hX hg2.1
  have hit := chitem_short (cb := cb) (w := w2) key v hv
  have x0 := hX2.cell 0
  have x2 := hX2.cell 2
  simp at x0 x2
  have H2 := Lib.hid (And.intro hc2 (And.intro (hg1.trans hg2) (And.intro hr2 hX2)))
  have hXi := hX2.inside
  clear hg1 hr1 hX hT hc2 hg2 hr2 hX2 hlv hv
  go_wp2_with fail
  refine hit.mono ?_
  rintro e w3 ⟨rfl, hb3⟩
  obtain ⟨hc2, hg2, hr2, hX2⟩ := H2.out
  obtain ⟨-, hy, hl, hv, hk, ho, hok, hs, ha, hn⟩ := HP.out
  have hba := alloc_below (w := w3) (.cells #[.string key, .string v, .int .i64 0, .int .i64 0] 126)
  have hI := Has.made w3 126 #[.string key, .string v, .int .i64 0, .int .i64 0]
  have hb4 := hb3.trans (hba.mono hb3.size)
  have hX4 := hX2.below hb4 hX2.inside
  have x0 := hX4.cell 0
  have x2 := hX4.cell 2
  simp at x0 x2
  have hrs := set_any (.slice A l.length c) l ⟨key, v, 0, 0⟩ (w3.alloc (.cells #[.string key, .string v, .int .i64 0, .int .i64 0] 126)) (row_readsIt (row_below hr2 hb4)) hl.ok.2 (by have := leaf_few hl.ok hl.fits; omega) (fun y hy => by
    rcases List.mem_cons.1 hy with rfl | hy
    · exact ⟨by show key.size ≤ _; omega, by show v.size ≤ _; omega⟩
    · rcases right_cases (hl.ok.1 y hy) with ⟨_, h2, h3⟩
      refine ⟨by omega, ?_⟩
      rcases h3 with ⟨_, _, h3⟩ | ⟨_, _, _, _, h3⟩
      · omega
      · rw [h3]; decide)
  have H4 := Lib.hid (And.intro (hc2.below hb4) (And.intro (hg2.trans (goes_below hb4)) (And.intro hX4 hy)))
  clear hc2 hg2 hr2 hX2 hb3 hba hI hb4 hX4 hit hy hl hv hk ho hok hs ha hn hXi
  go_wp2_with fail
  refine hrs.mono ?_
  rintro e w5 ⟨v5, rfl, hr5, hb5⟩
  obtain ⟨hc4, hg4, hX4, hy⟩ := H4.out
  obtain ⟨-, -, hl, hv, hk, ho, hok, hs, ha, hn⟩ := HP.out
  obtain ⟨A5, c5, rfl⟩ := row_form hr5
  have hr5' := row_lower hr5 (base' := 0) (Nat.zero_le _)
  have hpt := partsI_any1 A5 c5 (setL l ⟨key, v, 0, 0⟩) hok hs hr5'
  have hlv := chleaves_any hpt (by simp) (by simp) (fun q hq => by simp at hq; subst hq; have := leaf_few hok hs; omega) (fun i hi h0 => by simp at hi; omega) hy hn (by simp) (hc4.below hb5)
  have hlt := leavesT_one (c := ⟨s, [], [root]⟩) hy hok hs ha
  unfold leavesT at hlt
  rw [partsI_one hok hs] at hlt
  simp only [List.nil_append] at hlv
  rw [hlt] at hlv
  unfold lvK at hlv
  simp only [if_true, List.nil_append] at hlv
  have hX5 := hX4.below hb5 hX4.inside
  have H5 := Lib.hid (And.intro (hg4.trans (goes_below hb5)) (And.intro hX5 ((hc4.below hb5).types hy)))
  rw [HY.out.1, HY.out.2] at hlv
  clear hc4 hg4 hX4 hy hl hv hk ho hok hs ha hn hr5 hr5' hb5 hpt hlt hX5 hrs
  go_wp2_with fail
  refine hlv.mono ?_
  rintro e w6 ⟨⟨v6, rfl, hr6⟩, F6, hc6, hg6⟩
  obtain ⟨hg5, hX5, hT5⟩ := H5.out
  obtain ⟨A6, c6, rfl⟩ := row_form hr6
  have hX6 := has_typed hT5 (by decide) hX5 hg6.1
  have x0 := hX6.cell 0
  simp at x0
  have hup := chup_nil cb ⟨⟨#[]⟩, y⟩ A6 c6 (row_lower hr6 (Nat.zero_le _))
  have H6 := Lib.hid (And.intro hc6 (hg5.trans hg6))
  clear hg5 hX5 hT5 hr6 hc6 hg6 hX6 hlv
  go_wp2_with fail
  refine hup.mono ?_
  rintro e w7 ⟨rfl, hb7⟩
  obtain ⟨hc6, hg6⟩ := H6.out
  have H7 := Lib.hid (And.intro (hc6.below hb7) (hg6.trans (goes_below hb7)))
  clear hc6 hg6 hb7 hup
  go_wp2_with fail
  go_ret2
  exact ⟨rfl, F6, H7.out.1, H7.out.2⟩
end
end Go.Proofs.YtpoocbkligjgbaaGreatDoor

namespace Go.Proofs.YtpoocbkligjgbaaGreatDoor
open Go.RowKit Go.Sort Go.Lib

section
variable {cb p pd pf b : Nat} {s : PgS} {F : List Nat} {w : World} {root : Int} {l : List Itm}

set_option maxRecDepth 100000 in
set_option maxHeartbeats 8000000 in
theorem chdel_one (key : ByteArray) (hid : IsInt root) (hy : Yg s) (hl : Leaf1 s root l) (hi : isAt l key = true) (ho : (itemAt l key).over = 0) (hok : OKL (delL l key)) (hs : sz (delL l key) ≤ 240) (ha : avail s ≠ 0) (hn : s.n ≤ 900000) (h : ChAt cb p pd pf b ⟨s, [], []⟩ F w) :
    Calls Tryz.prog 46 #[.pointer (some ⟨cb, 0, none⟩), .int .i64 root, .string key] w fun e w' => e = .returned (.tuple #[.int .i64 (cand s), .int .i64 0]) ∧ ∃ F', ChAt cb p pd pf b ⟨mkS s 2 0 (bodyI (delL l key)), [cand s], [root]⟩ F' w' ∧ Goes F w F' w' := by
  obtain ⟨v1, v2, F0, hp, rfl⟩ := h
  have q0 := hp.has.cell 0
  simp at q0
  have hdn := down_one key hid hy hl hp.pg
  have HP := Lib.hid (And.intro (show ChAt cb p pd pf b ⟨s, [], []⟩ (chF cb v1 v2 F0) w from ⟨v1, v2, F0, hp, rfl⟩) (And.intro hy (And.intro hl (And.intro hi (And.intro ho (And.intro hok (And.intro hs (And.intro ha hn))))))))
  clear hp hy hl hi ho hok hs ha hn
  obtain ⟨y, hyv⟩ : ∃ y, cand s = y := ⟨_, rfl⟩
  obtain ⟨s1, hs1⟩ : ∃ s1, mkS s 2 0 (bodyI (delL l key)) = s1 := ⟨_, rfl⟩
  rw [hyv, hs1]
  have HY := Lib.hid (And.intro hyv hs1)
  clear hyv hs1
  go_enter Tryz.func46, Tryz.ntmps46
  go_wp2_with fail
  refine hdn.mono ?_
  rintro e w1 ⟨A, c, rfl, hr1, hb1⟩
  obtain ⟨hc, hy, hl, hi, ho, hok, hs, ha, hn⟩ := HP.out
  have hba := alloc_below (w := w1) (.cells #[.slice none 0 0, .int .i64 root, .slice A l.length c] 122)
  have hX := Has.made w1 122 #[.slice none 0 0, .int .i64 root, .slice A l.length c]
  have hb2 := hb1.trans (hba.mono hb1.size)
  have hr2 := row_lower (row_below hr1 hba) (Nat.zero_le _)
  have hit := item_any none A 0 0 c root l key (w1.alloc (.cells #[.slice none 0 0, .int .i64 root, .slice A l.length c] 122)) hl.ok (by have := leaf_few hl.ok hl.fits; omega) hr2
  rw [hi] at hit
  obtain ⟨x, hx⟩ : ∃ x, itemAt l key = x := ⟨_, rfl⟩
  rw [hx] at hit
  have H1 := Lib.hid (And.intro (hc.below hb2) (And.intro (goes_below (G := chF cb v1 v2 F0) hb2) (And.intro hr2 (And.intro hX hy))))
  clear hc hy hl hi ho hok hs ha hn hb1 hba hb2 hr1 hr2 hX hdn hx
  go_wp2_with fail
  refine hit.mono ?_
  rintro e w9 ⟨rfl, hb9⟩
  obtain ⟨hc, hg0, hr2, hX, hy⟩ := H1.out
  obtain ⟨-, -, hl, -, ho, -⟩ := HP.out
  have hba9 := alloc_below (w := w9) (.cells #[.string x.key, .string x.val, .int .i64 x.over, .int .i64 x.size] 126)
  have hb10 := hb9.trans (hba9.mono hb9.size)
  have hX10 := hX.below hb10 hX.inside
  have x0 := hX10.cell 0
  have x1 := hX10.cell 1
  have x2 := hX10.cell 2
  simp at x0 x1 x2
  have hlv := chleave_one A c root l key hl.ok hl.fits (row_below hr2 hb10) ho (by simp) (hc.below hb10)
  have H1b := Lib.hid (And.intro (hg0.trans (goes_below hb10)) (And.intro (row_below hr2 hb10) (And.intro hX10 ((hc.below hb10).types hy))))
  clear hc hg0 hr2 hX hy hl ho hb9 hba9 hb10 hX10 hit
  go_wp2_with fail
  refine hlv.mono ?_
  rintro e w2 ⟨rfl, F2, hc2, hg2⟩
  obtain ⟨hg1, hr1, hX, hT⟩ := H1b.out
  have hr2 := row_typed hT (by decide) hr1 hg2.1
  have hX2 := has_typed hT (by decide) hX hg2.1
  have x0 := hX2.cell 0
  have x2 := hX2.cell 2
  simp at x0 x2
  obtain ⟨-, hy, hl, hi, ho, hok, hs, ha, hn⟩ := HP.out
  have hrs := del_any (.slice A l.length c) l key w2 (row_readsIt hr2) hl.ok.2 (by have := leaf_few hl.ok hl.fits; omega) (fun y hy => by
    rcases right_cases (hl.ok.1 y hy) with ⟨_, h2, h3⟩
    refine ⟨by omega, ?_⟩
    rcases h3 with ⟨_, _, h3⟩ | ⟨_, _, _, _, h3⟩
    · omega
    · rw [h3]; decide)
  have H4 := Lib.hid (And.intro hc2 (And.intro (hg1.trans hg2) (And.intro hX2 hy)))
  have hXi := hX2.inside
  clear hg1 hr1 hX hT hc2 hg2 hr2 hX2 hlv hy hl hi ho hok hs ha hn
  go_wp2_with fail
  refine hrs.mono ?_
  rintro e w5 ⟨v5, rfl, hr5, hb5⟩
  obtain ⟨hc4, hg4, hX4, hy⟩ := H4.out
  obtain ⟨-, -, hl, hi, ho, hok, hs, ha, hn⟩ := HP.out
  have hX4b := hX4.below hb5 hX4.inside
  have x0 := hX4b.cell 0
  simp at x0
  obtain ⟨A5, c5, rfl⟩ := row_form hr5
  have hr5' := row_lower hr5 (base' := 0) (Nat.zero_le _)
  have hpt := partsI_any1 A5 c5 (delL l key) hok hs hr5'
  have hlv := chleaves_any hpt (by simp) (by simp) (fun q hq => by simp at hq; subst hq; have := leaf_few hok hs; omega) (fun i hi h0 => by simp at hi; omega) hy hn (by simp) (hc4.below hb5)
  have hlt := leavesT_one (c := ⟨s, [], [root]⟩) hy hok hs ha
  unfold leavesT at hlt
  rw [partsI_one hok hs] at hlt
  simp only [List.nil_append] at hlv
  rw [hlt] at hlv
  unfold lvK at hlv
  simp only [if_true, List.nil_append] at hlv
  have hX5 := hX4.below hb5 hX4.inside
  have H5 := Lib.hid (And.intro (hg4.trans (goes_below hb5)) (And.intro hX5 ((hc4.below hb5).types hy)))
  rw [HY.out.1, HY.out.2] at hlv
  clear hc4 hg4 hX4 hX4b hy hl hi ho hok hs ha hn hr5 hr5' hb5 hpt hlt hX5 hrs
  go_wp2_with fail
  refine hlv.mono ?_
  rintro e w6 ⟨⟨v6, rfl, hr6⟩, F6, hc6, hg6⟩
  obtain ⟨hg5, hX5, hT5⟩ := H5.out
  obtain ⟨A6, c6, rfl⟩ := row_form hr6
  have hX6 := has_typed hT5 (by decide) hX5 hg6.1
  have x0 := hX6.cell 0
  simp at x0
  have hup := chup_nil cb ⟨⟨#[]⟩, y⟩ A6 c6 (row_lower hr6 (Nat.zero_le _))
  have H6 := Lib.hid (And.intro hc6 (hg5.trans hg6))
  clear hg5 hX5 hT5 hr6 hc6 hg6 hX6 hlv
  go_wp2_with fail
  refine hup.mono ?_
  rintro e w7 ⟨rfl, hb7⟩
  obtain ⟨hc6, hg6⟩ := H6.out
  have H7 := Lib.hid (And.intro (hc6.below hb7) (hg6.trans (goes_below hb7)))
  clear hc6 hg6 hb7 hup
  go_wp2_with fail
  go_ret2
  exact ⟨rfl, F6, H7.out.1, H7.out.2⟩
end
end Go.Proofs.YtpoocbkligjgbaaGreatDoor

namespace Go.Proofs.YtpoocbkligjgbaaGreatDoor
open Go.RowKit Go.Sort Go.Lib

section
variable {p pd pf b : Nat} {s : PgS} {F : List Nat} {w : World} {root : Int} {l : List Itm}

/-- A change of which nothing is done yet. -/
theorem ChAt.new (h : PgIs p pd pf b s F w) : ChAt w.heap.size p pd pf b ⟨s, [], []⟩ (w.heap.size :: F) (w.alloc (.cells #[.pointer (some ⟨p, 0, none⟩), .slice none 0 0, .slice none 0 0] 83)) :=
  ⟨.slice none 0 0, .slice none 0 0, F, ⟨Has.made w _ _, World.ownsRow_nil _ _ _ _, World.ownsRow_nil _ _ _ _, h.below (alloc_below _), fun hF => by have := h.lt _ hF; omega, by simp [Value.ownBlock], by simp [Value.ownBlock], by simp [Value.ownBlock]⟩, by simp [chF, Value.ownBlock]⟩
/-- What a change leaves of the pager. -/
theorem ChAt.over {cb : Nat} {c : ChS} {F' : List Nat} {w1 w' : World} (h : ChAt cb p pd pf b c F' w') (hb : Below w.heap.size w w1) (hcb : w.heap.size ≤ cb) (hg : Goes (cb :: F) w1 F' w') : ∃ F0, PgIs p pd pf b c.s F0 w' ∧ Goes F w F0 w' := by
  obtain ⟨v1, v2, F0, hp, rfl⟩ := h
  refine ⟨F0, hp.pg, ((Kept.of_below (F := F) hb).then_ hg.1 fun i hi => ?_), fun k hk => ?_⟩
  · rcases List.mem_cons.1 hi with rfl | hi
    · exact .inr hcb
    · exact .inl hi
  · rcases hg.2 k (by simp [chF, hk]) with h1 | h1
    · rcases List.mem_cons.1 h1 with rfl | h1
      · exact .inr hcb
      · exact .inl h1
    · exact .inr (Nat.le_trans hb.size h1)

set_option maxRecDepth 100000 in
set_option maxHeartbeats 4000000 in
theorem trput_one (key v : ByteArray) (hid : IsInt root) (hy : Yg s) (hl : Leaf1 s root l) (hv : v.size ≤ 60) (hk : 1 ≤ key.size ∧ key.size ≤ 40) (ho : (itemAt l key).over = 0) (hok : OKL (setL l ⟨key, v, 0, 0⟩)) (hs : sz (setL l ⟨key, v, 0, 0⟩) ≤ 240) (ha : avail s ≠ 0) (hn : s.n ≤ 890000) (h : PgIs p pd pf b s F w) :
    Calls Tryz.prog 14 #[.pointer (some ⟨p, 0, none⟩), .int .i64 root, .string key, .string v] w fun e w' => e = .returned (.tuple #[.int .i64 (cand s), .int .i64 0]) ∧ ∃ F', PgIs p pd pf b (drS (mkS s 2 0 (bodyI (setL l ⟨key, v, 0, 0⟩))) root) F' w' ∧ Goes F w F' w' := by
  obtain ⟨-, e2, e3, e4, e5, e6, -⟩ := leaf1_end hl hy hok hs ha (by omega)
  have hr := trright_any key w
  rw [decide_eq_true hk] at hr
  have g2 : decide ((2000 : Int) < (v.size : Int)) = false := by simp; omega
  have hba := alloc_below (w := w) (.cells #[.pointer (some ⟨p, 0, none⟩), .slice none 0 0, .slice none 0 0] 83)
  have hput := chput_one key v hid hy hl hv hk.2 ho hok hs ha (by omega) (ChAt.new h)
  have hmn : (mkS s 2 0 (bodyI (setL l ⟨key, v, 0, 0⟩))).n = s.n + 1 := mkS_n _ _ _ _
  obtain ⟨y, hyv⟩ : ∃ y, cand s = y := ⟨_, rfl⟩
  obtain ⟨s1, hs1⟩ : ∃ s1, mkS s 2 0 (bodyI (setL l ⟨key, v, 0, 0⟩)) = s1 := ⟨_, rfl⟩
  rw [hyv, hs1] at hput ⊢
  rw [hs1] at e2 e4 hmn
  have HB := Lib.hid (And.intro hba (And.intro e2 (And.intro e4 (And.intro hmn hn))))
  clear h hk hv hba hl hy hok hs ha hn ho hid e2 e3 e4 e5 e6 hyv hs1 hmn
  go_enter Tryz.func14, Tryz.ntmps14
  go_wp2_with fail
  refine hr.mono ?_
  rintro e w1 ⟨rfl, rfl⟩
  clear hr
  go_wp2_with fail
  refine hput.mono ?_
  rintro e w1 ⟨rfl, F1, hc1, hg1⟩
  obtain ⟨hba, hy1, hf1, hmn, hn⟩ := HB.out
  have he := chend_any (cb := w.heap.size) (c := ⟨s1, [y], [root]⟩) (L := [root]) y 0 (by simp) hy1 (by simp) (fun x hx => by simp at hx; rw [hx]; exact hf1) (by show s1.n + 1 < 1000000; omega) hc1
  rw [if_neg (by simp)] at he
  have H1 := Lib.hid (And.intro hba hg1)
  clear hput hba hy1 hf1 hmn hn hc1 hg1
  go_wp2_with fail
  refine he.mono ?_
  rintro e w2 ⟨rfl, F2, hc2, hg2⟩
  have hov := hc2.over H1.out.1 (Nat.le_refl _) (H1.out.2.trans hg2)
  have H2 := Lib.hid hov
  clear he hc2 hg2 hov
  go_wp2_with fail
  go_ret2
  exact ⟨rfl, H2.out⟩

set_option maxRecDepth 100000 in
set_option maxHeartbeats 4000000 in
theorem trdel_one (key : ByteArray) (hid : IsInt root) (hy : Yg s) (hl : Leaf1 s root l) (hk : 1 ≤ key.size ∧ key.size ≤ 40) (hi : isAt l key = true) (ho : (itemAt l key).over = 0) (hok : OKL (delL l key)) (hs : sz (delL l key) ≤ 240) (ha : avail s ≠ 0) (hn : s.n ≤ 890000) (h : PgIs p pd pf b s F w) :
    Calls Tryz.prog 16 #[.pointer (some ⟨p, 0, none⟩), .int .i64 root, .string key] w fun e w' => e = .returned (.tuple #[.int .i64 (cand s), .int .i64 0]) ∧ ∃ F', PgIs p pd pf b (drS (mkS s 2 0 (bodyI (delL l key))) root) F' w' ∧ Goes F w F' w' := by
  obtain ⟨-, e2, e3, e4, e5, e6, -⟩ := leaf1_end hl hy hok hs ha (by omega)
  have hr := trright_any key w
  rw [decide_eq_true hk] at hr
  have hba := alloc_below (w := w) (.cells #[.pointer (some ⟨p, 0, none⟩), .slice none 0 0, .slice none 0 0] 83)
  have hput := chdel_one key hid hy hl hi ho hok hs ha (by omega) (ChAt.new h)
  have hmn : (mkS s 2 0 (bodyI (delL l key))).n = s.n + 1 := mkS_n _ _ _ _
  obtain ⟨y, hyv⟩ : ∃ y, cand s = y := ⟨_, rfl⟩
  obtain ⟨s1, hs1⟩ : ∃ s1, mkS s 2 0 (bodyI (delL l key)) = s1 := ⟨_, rfl⟩
  rw [hyv, hs1] at hput ⊢
  rw [hs1] at e2 e4 hmn
  have HB := Lib.hid (And.intro hba (And.intro e2 (And.intro e4 (And.intro hmn hn))))
  clear h hk hba hl hy hok hs ha hn ho hid e2 e3 e4 e5 e6 hyv hs1 hmn hi
  go_enter Tryz.func16, Tryz.ntmps16
  go_wp2_with fail
  refine hr.mono ?_
  rintro e w1 ⟨rfl, rfl⟩
  clear hr
  go_wp2_with fail
  refine hput.mono ?_
  rintro e w1 ⟨rfl, F1, hc1, hg1⟩
  obtain ⟨hba, hy1, hf1, hmn, hn⟩ := HB.out
  have he := chend_any (cb := w.heap.size) (c := ⟨s1, [y], [root]⟩) (L := [root]) y 0 (by simp) hy1 (by simp) (fun x hx => by simp at hx; rw [hx]; exact hf1) (by show s1.n + 1 < 1000000; omega) hc1
  rw [if_neg (by simp)] at he
  have H1 := Lib.hid (And.intro hba hg1)
  clear hput hba hy1 hf1 hmn hn hc1 hg1
  go_wp2_with fail
  refine he.mono ?_
  rintro e w2 ⟨rfl, F2, hc2, hg2⟩
  have hov := hc2.over H1.out.1 (Nat.le_refl _) (H1.out.2.trans hg2)
  have H2 := Lib.hid hov
  clear he hc2 hg2 hov
  go_wp2_with fail
  go_ret2
  exact ⟨rfl, H2.out⟩

/-- What Get tells of a leaf's items that stand in it. -/
def get1V (l : List Itm) (key : ByteArray) : ByteArray := if isAt l key = true then (itemAt l key).val else ⟨#[]⟩
def get1E (l : List Itm) (key : ByteArray) : Int := if isAt l key = true then 0 else 7
set_option maxRecDepth 100000 in
set_option maxHeartbeats 4000000 in
theorem trget_one (key : ByteArray) (hid : IsInt root) (hy : Yg s) (hl : Leaf1 s root l) (hk : 1 ≤ key.size ∧ key.size ≤ 40) (ho : (itemAt l key).over = 0) (h : PgIs p pd pf b s F w) :
    Calls Tryz.prog 23 #[.pointer (some ⟨p, 0, none⟩), .int .i64 root, .string key] w fun e w' => e = .returned (.tuple #[.string (get1V l key), .int .i64 (get1E l key)]) ∧ Below w.heap.size w w' := by
  have hr := trright_any key w
  rw [decide_eq_true hk] at hr
  have hd := down_one key hid hy hl h
  have HL := Lib.hid (And.intro hl.ok hl.fits)
  obtain ⟨x, hx⟩ : ∃ x, itemAt l key = x := ⟨_, rfl⟩
  obtain ⟨is, his⟩ : ∃ is, isAt l key = is := ⟨_, rfl⟩
  have e1 : get1V l key = if is = true then x.val else ⟨#[]⟩ := by unfold get1V; rw [hx, his]
  have e2 : get1E l key = if is = true then 0 else 7 := by unfold get1E; rw [his]
  rw [hx] at ho
  have HX := Lib.hid (And.intro hx his)
  have g0 : (x.over == 0) = true := by rw [ho]; rfl
  rw [e1, e2]
  clear h hy hid hl hk ho hx his e1 e2
  cases is with
  | true =>
    simp only [if_true]
    go_enter Tryz.func23, Tryz.ntmps23
    go_wp2_with fail
    refine hr.mono ?_
    rintro e w1 ⟨rfl, rfl⟩
    clear hr
    go_wp2_with fail
    refine hd.mono ?_
    rintro e w1 ⟨A, c, rfl, hr1, hb1⟩
    have hba := alloc_below (w := w1) (.cells #[.slice none 0 0, .int .i64 root, .slice A l.length c] 122)
    have hit := item_any none A 0 0 c root l key (w1.alloc (.cells #[.slice none 0 0, .int .i64 root, .slice A l.length c] 122)) HL.out.1 (by have := leaf_few HL.out.1 HL.out.2; omega) (row_lower (row_below hr1 hba) (Nat.zero_le _))
    rw [HX.out.1, HX.out.2] at hit
    have H1 := Lib.hid (hb1.trans (hba.mono hb1.size))
    clear hd hr1 hb1 hba
    go_wp2_with fail
    refine hit.mono ?_
    rintro e w2 ⟨rfl, hb⟩
    have hba := alloc_below (w := w2) (.cells #[.string x.key, .string x.val, .int .i64 x.over, .int .i64 x.size] 126)
    have H2 := Lib.hid (H1.out.trans ((hb.trans (hba.mono hb.size)).mono H1.out.size))
    clear hit hb hba
    go_wp2_with fail
    go_ret2
    exact ⟨rfl, H2.out⟩
  | false =>
    simp only [Bool.false_eq_true, if_false]
    go_enter Tryz.func23, Tryz.ntmps23
    go_wp2_with fail
    refine hr.mono ?_
    rintro e w1 ⟨rfl, rfl⟩
    clear hr
    go_wp2_with fail
    refine hd.mono ?_
    rintro e w1 ⟨A, c, rfl, hr1, hb1⟩
    have hba := alloc_below (w := w1) (.cells #[.slice none 0 0, .int .i64 root, .slice A l.length c] 122)
    have hit := item_any none A 0 0 c root l key (w1.alloc (.cells #[.slice none 0 0, .int .i64 root, .slice A l.length c] 122)) HL.out.1 (by have := leaf_few HL.out.1 HL.out.2; omega) (row_lower (row_below hr1 hba) (Nat.zero_le _))
    rw [HX.out.1, HX.out.2] at hit
    have H1 := Lib.hid (hb1.trans (hba.mono hb1.size))
    clear hd hr1 hb1 hba
    go_wp2_with fail
    refine hit.mono ?_
    rintro e w2 ⟨rfl, hb⟩
    have hba := alloc_below (w := w2) (.cells #[.string x.key, .string x.val, .int .i64 x.over, .int .i64 x.size] 126)
    have H2 := Lib.hid (H1.out.trans ((hb.trans (hba.mono hb.size)).mono H1.out.size))
    clear hit hb hba
    go_wp2_with fail
    go_ret2
    exact ⟨rfl, H2.out⟩
end
end Go.Proofs.YtpoocbkligjgbaaGreatDoor
