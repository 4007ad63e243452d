/-
  over's Put: a chain's pages, made from the last one on. What a change of a tree makes and leaves, as functions of what the pager is: pages, parts, leaves, branches, and all of a Put and a Delete. The item of a key at the end of a way; New and Get of a tree. A change of a tree, in memory: the pager, and the rows of what is made and of what is left. A change's page, and its end: pages that are dropped. slices.Backward of steps: its closure, for every loop body that keeps what it reads.
-/
import Derived.Test.YtpoocbkligjgbaaGreatDoorMg33
import Derived.Test.YtpoocbkligjgbaaGreatDoorMg34
import Derived.Test.YtpoocbkligjgbaaGreatDoorMg35
import Derived.Test.YtpoocbkligjgbaaGreatDoorMg22
import Derived.Test.YtpoocbkligjgbaaGreatDoorMg27
import Derived.Test.YtpoocbkligjgbaaGreatDoorMg3
import Derived.Deep.RegionHeld3
import Derived.Test.YtpoocbkligjgbaaGreatDoorMg32
import Derived.RangeFuncNested
import Derived.RangeFuncBound
import Derived.RangeFuncCalls
import Derived.RangeFuncLeaves
import Derived.RangeFuncBox
import Derived.Shelf.Abstract
import Derived.Shelf.RegionOpen
import Derived.OwnWalkIn
import Derived.TacticsInMore
import Derived.LoopNIn
import Derived.LoopIn
import Derived.Sort.QuietIn
namespace Go.Proofs.YtpoocbkligjgbaaGreatDoor
open Go.RowKit Go.Sort Go.Lib Go.Shelf

attribute [local go_sem] Oper.semAt_some

/-- Where a Put stands: the error, the page that was made last, all that were made, the pager. -/
structure PuS where
  e : Int
  next : Int
  made : List Int
  s : PgS
def puStep (v : ByteArray) (st : PuS) (k : Nat) : PuS :=
  if st.e ≠ 0 then st
  else if mkE st.s 4 st.next (pce v k) = 0 then ⟨0, cand st.s, st.made ++ [cand st.s], mkS st.s 4 st.next (pce v k)⟩
  else { st with e := mkE st.s 4 st.next (pce v k) }
def puL (v : ByteArray) (s : PgS) (pre : List Nat) : PuS := pre.foldl (puStep v) ⟨0, 0, [], s⟩

structure PuOK (s : PgS) (m : Nat) (st : PuS) : Prop where
  yg : Yg st.s
  nodup : st.made.Nodup
  fate : ∀ x ∈ st.made, (st.s.H x).fate = 1
  n : st.s.n = s.n + st.made.length
  len : st.made.length ≤ m
  next : 0 ≤ st.next ∧ st.next ≤ 3000
theorem PuOK.new {s : PgS} (h : Yg s) : PuOK s 0 ⟨0, 0, [], s⟩ := ⟨h, List.nodup_nil, by simp, rfl, Nat.le_refl _, by simp⟩
theorem mkS_at {s : PgS} (hy : Yg s) (k n : Int) (t : ByteArray) (x : Int) (hx : x ≠ cand s) : (mkS s k n t).H x = s.H x := by
  unfold mkS
  split
  · rename_i c
    show (upd s.H s.pages _) x = _
    rw [hy.cnd.2.2.2 c] at hx
    exact upd_other _ _ hx
  · show (upd s.H (cand s) _) x = _
    exact upd_other _ _ hx
theorem mkS_new {s : PgS} (hy : Yg s) (k n : Int) (t : ByteArray) : (mkS s k n t).H (cand s) = ⟨1, k, n, t⟩ := by
  unfold mkS
  split
  · rename_i c
    show (upd s.H s.pages _) (cand s) = _
    rw [hy.cnd.2.2.2 c]
    exact upd_same _ _ _
  · show (upd s.H (cand s) _) (cand s) = _
    exact upd_same _ _ _
theorem mkS_n (s : PgS) (k n : Int) (t : ByteArray) : (mkS s k n t).n = s.n + 1 := by unfold mkS; split <;> rfl
theorem cand_fresh {s : PgS} (hy : Yg s) : (s.H (cand s)).fate ≠ 1 := by
  obtain ⟨a1, a2, a3, a4⟩ := hy.cnd
  by_cases c : s.spare = []
  · rw [a4 c, hy.out _ (.inr (Int.le_refl _))]; decide
  · rw [(a3 c).2]; decide
theorem PuOK.step {s : PgS} {m : Nat} {st : PuS} (h : PuOK s m st) (v : ByteArray) (k : Nat) : PuOK s (m + 1) (puStep v st k) := by
  unfold puStep
  split
  · exact ⟨h.yg, h.nodup, h.fate, h.n, Nat.le_succ_of_le h.len, h.next⟩
  · split
    · rename_i hm
      have hcf := cand_fresh h.yg
      have hc := h.yg.cnd
      have hmo := h.yg.most
      have hfe := h.yg.few
      have hnm : cand st.s ∉ st.made := fun hx => hcf (h.fate _ hx)
      refine ⟨h.yg.made hm, ?_, fun x hx => ?_, ?_, ?_, by show 0 ≤ cand st.s ∧ cand st.s ≤ 3000; omega⟩
      · show (st.made ++ [cand st.s]).Nodup
        rw [List.nodup_append]
        exact ⟨h.nodup, by simp, fun a ha b hb => by simp at hb; subst hb; exact fun e => hnm (e ▸ ha)⟩
      · show ((mkS st.s 4 st.next (pce v k)).H x).fate = 1
        by_cases e : x = cand st.s
        · rw [e, mkS_new h.yg]
        · rw [mkS_at h.yg _ _ _ _ e]
          have hx' : x ∈ st.made ++ [cand st.s] := hx
          simp [e] at hx'
          exact h.fate x hx'
      · show (mkS st.s 4 st.next (pce v k)).n = s.n + (st.made ++ [cand st.s]).length
        rw [mkS_n, h.n]
        simp
        omega
      · show (st.made ++ [cand st.s]).length ≤ m + 1
        have := h.len
        simp
        omega
    · exact ⟨h.yg, h.nodup, h.fate, h.n, Nat.le_succ_of_le h.len, h.next⟩

def puE (s : PgS) (v : ByteArray) : Int := if v.size = 0 ∨ 2000 < v.size then 1 else (puL v s (backL (nP v.size) (nP v.size))).e
def puI (s : PgS) (v : ByteArray) : Int := if puE s v = 0 then (puL v s (backL (nP v.size) (nP v.size))).next else 0
def puT (s : PgS) (v : ByteArray) : PgS := if v.size = 0 ∨ 2000 < v.size then s else if puE s v = 0 then (puL v s (backL (nP v.size) (nP v.size))).s else drAll (puL v s (backL (nP v.size) (nP v.size))).s (puL v s (backL (nP v.size) (nP v.size))).made



end Go.Proofs.YtpoocbkligjgbaaGreatDoor

namespace Go.Proofs.YtpoocbkligjgbaaGreatDoor
open Go.RowKit Go.Sort Go.Lib

/-- A change: the pager, what only the new tree has, what only the old one has. -/
structure ChS where
  s : PgS
  made : List Int
  old : List Int

def pgE (c : ChS) (k : Int) (t : ByteArray) (laid : Int) : Int := if laid ≠ 0 then 15 else mkE c.s k 0 t
def pgI (c : ChS) (k : Int) (t : ByteArray) (laid : Int) : Int := if pgE c k t laid = 0 then cand c.s else 0
def pgT (c : ChS) (k : Int) (t : ByteArray) (laid : Int) : ChS := if pgE c k t laid = 0 then { c with s := mkS c.s k 0 t, made := c.made ++ [cand c.s] } else c

/-- The parts of items, or of children, each of which goes into a page. -/
def ptI : Nat → List Itm → List (List Itm)
  | 0, l => [l]
  | f + 1, l => if l.length < 2 ∨ (OKL l ∧ sz l ≤ 240) then [l] else ptI f (l.take (halfL l)) ++ ptI f (l.drop (halfL l))
def partsI (l : List Itm) : List (List Itm) := ptI l.length l
def fitC (l : List BR.Chd) : Bool := decide (BR.sz (BR.first l) ≤ 240)
def ptC : Nat → List BR.Chd → List (List BR.Chd)
  | 0, l => [l]
  | f + 1, l => if l.length < 2 ∨ fitC l = true then [l] else ptC f (l.take (BR.halfL l)) ++ ptC f (l.drop (BR.halfL l))
def partsC (l : List BR.Chd) : List (List BR.Chd) := ptC l.length l

/-- Pages that are made of parts: the error, the change, what stands for them in the branch above. -/
structure LvS where
  e : Int
  c : ChS
  kids : List BR.Chd
def bodyI (l : List Itm) : ByteArray := ⟨(putB l).toArray⟩
def keyI (l : List Itm) : ByteArray := (l.getD 0 ⟨⟨#[]⟩, ⟨#[]⟩, 0, 0⟩).key
def lvStep (st : LvS) (part : List Itm) : LvS :=
  if st.e ≠ 0 then st
  else if pgE st.c 2 (bodyI part) (putE part) ≠ 0 then { st with e := pgE st.c 2 (bodyI part) (putE part) }
  else ⟨0, pgT st.c 2 (bodyI part) (putE part), st.kids ++ [⟨if st.kids.length = 0 then ⟨#[]⟩ else keyI part, cand st.c.s⟩]⟩
def lvL (c : ChS) (parts : List (List Itm)) : LvS := parts.foldl lvStep ⟨0, c, []⟩
def bodyC (l : List BR.Chd) : ByteArray := ⟨(BR.putB (BR.first l)).toArray⟩
def brStep (st : LvS) (part : List BR.Chd) : LvS :=
  if st.e ≠ 0 then st
  else if pgE st.c 3 (bodyC part) (BR.putE (BR.first part)) ≠ 0 then { st with e := pgE st.c 3 (bodyC part) (BR.putE (BR.first part)) }
  else ⟨0, pgT st.c 3 (bodyC part) (BR.putE (BR.first part)), st.kids ++ [⟨(kidAt part 0).key, cand st.c.s⟩]⟩
def brL (c : ChS) (parts : List (List BR.Chd)) : LvS := parts.foldl brStep ⟨0, c, []⟩
def lvK (st : LvS) : List BR.Chd := if st.e = 0 then st.kids else []
/-- Leaves of items; branches of children (none of none). -/
def leavesT (c : ChS) (l : List Itm) : LvS := lvL c (partsI l)
def branchesT (c : ChS) (l : List BR.Chd) : LvS := if l.length = 0 then ⟨0, c, []⟩ else brL c (partsC l)

/-- What comes of a walk up: the error, the new root, the change. -/
structure UpS where
  e : Int
  root : Int
  c : ChS
def topT : Nat → ChS → List BR.Chd → Nat → UpS
  | 0, c, _, _ => ⟨15, 0, c⟩
  | f + 1, c, kids, h => if kids.length ≤ 1 then ⟨0, (kidAt kids 0).page, c⟩ else if h = 30 then ⟨15, 0, c⟩ else
    let r := branchesT c kids
    if r.e ≠ 0 then ⟨r.e, 0, r.c⟩ else topT f r.c r.kids (h + 1)
noncomputable def giveT : Nat → ChS → Int → Nat → UpS
  | 0, c, _, _ => ⟨15, 0, c⟩
  | f + 1, c, id, lv => match ldN c.s id lv with
    | none => ⟨ldE c.s id lv, 0, c⟩
    | some n => if id ∈ c.old then ⟨15, 0, c⟩ else if n.kids.length ≠ 1 then ⟨0, id, c⟩ else giveT f { c with old := c.old ++ [id] } (kidAt n.kids 0).page (lv + 1)
/-- A branch's children with others in the place of one. -/
def withK (st : Stp) (kids : List BR.Chd) : List BR.Chd := BR.replL st.kids st.place (match kids with | [] => [] | x :: r => ⟨(kidAt st.kids st.place).key, x.page⟩ :: r)
noncomputable def upT : List Stp → ChS → List BR.Chd → Nat → UpS
  | [], c, kids, n => topT 40 c kids (n + 1)
  | st :: r, c, kids, n => if r.length = 0 ∧ (withK st kids).length = 1 then giveT 30 c (kidAt (withK st kids) 0).page 2 else
    let q := branchesT c (withK st kids)
    if q.e ≠ 0 then ⟨q.e, 0, q.c⟩ else upT r q.c q.kids n

/-- What is told of an item, the pages of its chain. -/
def itm0 : Itm := ⟨⟨#[]⟩, ⟨#[]⟩, 0, 0⟩
def itemAt (l : List Itm) (key : ByteArray) : Itm := if isAt l key = true then l.getD (lb l key) itm0 else itm0
def leaveE (s : PgS) (x : Itm) : Int := if x.over = 0 then 0 else wkE s x.over x.size
def leaveL (s : PgS) (x : Itm) : List Int := if x.over = 0 then [] else wkL s x.over x.size
def leaveT (c : ChS) (wy : Wy) (key : ByteArray) : ChS := { c with old := c.old ++ (wy.steps.map Stp.page ++ [wy.page]) ++ leaveL c.s (itemAt wy.items key) }
/-- The item of a key and its value. -/
def newE (c : ChS) (v : ByteArray) : Int := if v.size ≤ 60 then 0 else if puE c.s v ≠ 0 then puE c.s v else wkE (puT c.s v) (puI c.s v) v.size
def newT (c : ChS) (v : ByteArray) : ChS := if v.size ≤ 60 then c else if puE c.s v ≠ 0 then { c with s := puT c.s v } else { c with s := puT c.s v, made := c.made ++ wkL (puT c.s v) (puI c.s v) v.size }
def newI (c : ChS) (key v : ByteArray) : Itm := if v.size ≤ 60 then ⟨key, v, 0, 0⟩ else if puE c.s v ≠ 0 then itm0 else ⟨key, ⟨#[]⟩, puI c.s v, v.size⟩

noncomputable def putT (c : ChS) (root : Int) (key v : ByteArray) : UpS :=
  let wy := dn c.s root key
  if wy.e ≠ 0 then ⟨wy.e, 0, c⟩ else
  let c1 := leaveT c wy key
  if leaveE c.s (itemAt wy.items key) ≠ 0 then ⟨leaveE c.s (itemAt wy.items key), 0, c1⟩ else
  let c2 := newT c1 v
  if newE c1 v ≠ 0 then ⟨newE c1 v, 0, c2⟩ else
  let q := leavesT c2 (setL wy.items (newI c1 key v))
  if q.e ≠ 0 then ⟨q.e, 0, q.c⟩ else upT wy.steps.reverse q.c q.kids wy.steps.length
/-- The end of a change: the pages of the tree that is not to be are dropped. -/
def endS (u : UpS) : PgS := if u.e ≠ 0 then drAll u.c.s u.c.made else drAll u.c.s u.c.old
end Go.Proofs.YtpoocbkligjgbaaGreatDoor

namespace Go.Proofs.YtpoocbkligjgbaaGreatDoor
open Go.RowKit Go.Sort Go.Lib

theorem Has.put4 {g : Nat} {t : TypeId} {a b c d : Value} {w : World} (h : Has w g t #[a, b, c, d]) (u v x y : Value) : Has ((((w.setCell ⟨g, 0, none⟩ u).setCell ⟨g, 1, none⟩ v).setCell ⟨g, 2, none⟩ x).setCell ⟨g, 3, none⟩ y) g t #[u, v, x, y] := by
  have := (((h.put 0 u).put 1 v).put 2 x).put 3 y
  simpa using this
theorem below_put4 {B g : Nat} {w w' : World} (h : Below B w w') (hg : B ≤ g) (u v x y : Value) : Below B w ((((w'.setCell ⟨g, 0, none⟩ u).setCell ⟨g, 1, none⟩ v).setCell ⟨g, 2, none⟩ x).setCell ⟨g, 3, none⟩ y) := (below_put3 h hg u v x).setCell (p := ⟨g, 3, none⟩) hg _

set_option maxRecDepth 100000 in
set_option maxHeartbeats 4000000 in
theorem item_any (As A : Option Addr) (ns cs c : Nat) (page : Int) (l : List Itm) (key : ByteArray) (w : World) (hok : OKL l) (hl : l.length ≤ 100000) (hr : w.ownsRow 0 126 4 (.slice A l.length c) l.length (ilist l)) :
    Calls Tryz.prog 64 #[.agg #[.slice As ns cs, .int .i64 page, .slice A l.length c], .string key] w fun e w' => e = .returned (.tuple #[iagg (itemAt l key), .bool (isAt l key)]) ∧ Below w.heap.size w w' := by
  have hW1 := alloc_below (w := w) (.cells #[.slice As ns cs, .int .i64 page, .slice A l.length c] 122)
  have hW2 : Below w.heap.size w ((w.alloc (.cells #[.slice As ns cs, .int .i64 page, .slice A l.length c] 122)).alloc (.cells #[.string ⟨#[]⟩, .string ⟨#[]⟩, .int .i64 0, .int .i64 0] 126)) := hW1.alloc (Nat.le_of_lt (by simp)) _
  have hN := Has.made (w.alloc (.cells #[.slice As ns cs, .int .i64 page, .slice A l.length c] 122)) 126 #[.string ⟨#[]⟩, .string ⟨#[]⟩, .int .i64 0, .int .i64 0]
  have hX := (Has.made w 122 #[.slice As ns cs, .int .i64 page, .slice A l.length c]).alloc (.cells #[.string ⟨#[]⟩, .string ⟨#[]⟩, .int .i64 0, .int .i64 0] 126)
  rw [show (w.alloc (.cells #[.slice As ns cs, .int .i64 page, .slice A l.length c] 122)).heap.size = w.heap.size + 1 by simp] at hN
  have hr2 := row_below hr hW2
  have hsz : ((w.alloc (.cells #[.slice As ns cs, .int .i64 page, .slice A l.length c] 122)).alloc (.cells #[.string ⟨#[]⟩, .string ⟨#[]⟩, .int .i64 0, .int .i64 0] 126)).heap.size = w.heap.size + 2 := by simp
  have hri := row_readsIt hr2
  have hfd := find_any (.slice A l.length c) l key _ hri hok.2 (by omega)
  obtain ⟨i, hi⟩ : ∃ i, lb l key = i := ⟨_, rfl⟩
  obtain ⟨is, his⟩ : ∃ is, isAt l key = is := ⟨_, rfl⟩
  obtain ⟨N, hN2⟩ : ∃ N, l.length = N := ⟨_, rfl⟩
  have HB := Lib.hid (And.intro hW2 (And.intro hN (And.intro hX (And.intro hr2 (And.intro hsz (And.intro hi (And.intro his hN2)))))))
  rw [hi, his, hN2] at hfd
  have hx : itemAt l key = if is = true then l.getD i itm0 else itm0 := by unfold itemAt; rw [his, hi]
  rw [hx, his, hN2]
  clear hW1 hW2 hN hX hr hr2 hsz hri hi hok his hx hN2
  cases is with
  | false =>
    go_enter Tryz.func64, Tryz.ntmps64
    go_wp2_with fail
    refine hfd.mono ?_
    rintro e w1 ⟨rfl, hb⟩
    obtain ⟨hW2, hN, hX, hr2, hsz, hi, his, hNl⟩ := HB.out
    rw [hNl] at hN hW2 hsz
    have hN1 := hN.below hb (by rw [← hNl] at hb ⊢; rw [hNl]; exact hN.inside)
    have y0 := hN1.free 0
    have y1 := hN1.free 1
    have y2 := hN1.free 2
    have y3 := hN1.free 3
    have z0 := hN1.cell 0
    have z1 := hN1.cell 1
    have z2 := hN1.cell 2
    have z3 := hN1.cell 3
    simp at z0 z1 z2 z3
    have H1 := Lib.hid (And.intro hN1 (hW2.trans (hb.mono (by omega))))
    clear hW2 hN hX hr2 hsz hi his hN1 hb hfd
    go_wp2_with fail
    obtain ⟨hN1, hbw⟩ := H1.out
    have hP := hN1.put4 (.string ⟨#[]⟩) (.string ⟨#[]⟩) (.int .i64 0) (.int .i64 0)
    have e0 := hP.cell 0
    have e1 := hP.cell 1
    have e2 := hP.cell 2
    have e3 := hP.cell 3
    simp at e0 e1 e2 e3
    exact bodyPost_ret (v := .tuple #[.agg #[.string ⟨#[]⟩, .string ⟨#[]⟩, .int .i64 0, .int .i64 0], .bool false]) (by simp [results, Tryz.results64, go_sem, e0, e1, e2, e3]) rfl ⟨rfl, below_put4 hbw (Nat.le_succ _) _ _ _ _⟩
  | true =>
    rw [if_pos rfl]
    obtain ⟨x, hx⟩ : ∃ x, l.getD i itm0 = x := ⟨_, rfl⟩
    rw [hx]
    have HX := Lib.hid hx
    clear hx
    go_enter Tryz.func64, Tryz.ntmps64
    go_wp2_with fail
    refine hfd.mono ?_
    rintro e w1 ⟨rfl, hb⟩
    obtain ⟨hW2, hN, hX, hr2, hsz, hi, his, hNl⟩ := HB.out
    rw [← hNl] at hb
    obtain ⟨hlt, -⟩ := isAt_iff.1 his
    rw [hi] at hlt
    have hr3 := row_below hr2 hb
    obtain ⟨gk, hgk⟩ : ∃ gk, A = some ⟨gk, 0, none⟩ := by
      rcases hr3.2 with ⟨h0, h1⟩ | ⟨g, cap, cur, h0, _⟩
      · exact absurd h1 (by omega)
      · simp only [Value.slice.injEq] at h0
        exact ⟨g, h0.1⟩
    subst hgk
    obtain ⟨A', c', hv, _, _, _, hc⟩ := row_readsIt hr3
    obtain ⟨b', off, hA, _, hit⟩ := hc (by omega)
    simp only [Value.slice.injEq] at hv
    rw [← hv.1] at hA
    simp at hA
    obtain ⟨rfl, rfl⟩ := hA
    obtain ⟨q0, q1, q2, q3⟩ := hit i hlt
    have hN1 := hN.below hb hN.inside
    have y0 := hN1.free 0
    have y1 := hN1.free 1
    have y2 := hN1.free 2
    have y3 := hN1.free 3
    have z0 := hN1.cell 0
    have z1 := hN1.cell 1
    have z2 := hN1.cell 2
    have z3 := hN1.cell 3
    simp at z0 z1 z2 z3
    have hX1 := hX.below hb hX.inside
    have x2 := hX1.cell 2
    rw [hNl] at x2
    simp at x2
    have hi0 : (0 : Int) ≤ (i : Int) := by omega
    have hi1 : (i : Int) < (N : Int) := by omega
    have hx : l[i] = x := by rw [← HX.out]; simp [List.getD, List.getElem?_eq_getElem hlt]
    rw [hx] at q0 q1 q2 q3
    simp at q0 q1 q2 q3
    have H1 := Lib.hid (And.intro hN1 (hW2.trans (hb.mono (by omega))))
    clear hW2 hN hX hr2 hsz hi his hN1 hb hfd hX1 hit hc hv hr3 hx
    go_wp2_with fail
    obtain ⟨hN1, hbw⟩ := H1.out
    have hP := hN1.put4 (.string x.key) (.string x.val) (.int .i64 x.over) (.int .i64 x.size)
    have e0 := hP.cell 0
    have e1 := hP.cell 1
    have e2 := hP.cell 2
    have e3 := hP.cell 3
    simp at e0 e1 e2 e3
    exact bodyPost_ret (v := .tuple #[iagg x, .bool true]) (by simp [results, Tryz.results64, go_sem, e0, e1, e2, e3]) rfl ⟨rfl, below_put4 hbw (Nat.le_succ _) _ _ _ _⟩

set_option maxRecDepth 100000 in
set_option maxHeartbeats 1000000 in
theorem trright_any (key : ByteArray) (w : World) : Calls Tryz.prog 41 #[.string key] w fun e w' => e = .returned (.bool (decide (1 ≤ key.size ∧ key.size ≤ 40))) ∧ w = w' := by
  by_cases h1 : 1 ≤ key.size
  · have g1 : decide ((1 : Int) ≤ (key.size : Int)) = true := by simp; omega
    have e1 : decide (1 ≤ key.size ∧ key.size ≤ 40) = decide ((key.size : Int) ≤ 40) := by
      by_cases h2 : key.size ≤ 40
      · rw [decide_eq_true ⟨h1, h2⟩, decide_eq_true (by omega)]
      · rw [decide_eq_false (fun h => h2 h.2), decide_eq_false (by omega)]
    rw [e1]
    clear e1
    go_enter Tryz.func41, Tryz.ntmps41
    go_wp2_with fail
    go_ret
    exact ⟨ret_bool (by first | rfl | simp), rfl⟩
  · have g1 : decide ((1 : Int) ≤ (key.size : Int)) = false := by simp; omega
    rw [decide_eq_false (fun h => h1 h.1)]
    go_enter Tryz.func41, Tryz.ntmps41
    go_wp2_with fail
    go_ret
    exact ⟨ret_bool (by first | rfl | simp), rfl⟩

set_option maxRecDepth 100000 in
set_option maxHeartbeats 1000000 in
theorem trnew_any {p pd pf b : Nat} {s : PgS} {F : List Nat} {w : World} (hy : Yg s) (hc : s.n < 1000000) (h : PgIs p pd pf b s F w) :
    Calls Tryz.prog 32 #[.pointer (some ⟨p, 0, none⟩)] w fun e w' => e = .returned (.tuple #[.int .i64 (mkI s 2 0 ⟨#[]⟩), .int .i64 (mkE s 2 0 ⟨#[]⟩)]) ∧ ∃ F', PgIs p pd pf b (mkT s 2 0 ⟨#[]⟩) F' w' ∧ Goes F w F' w' := by
  have hmk := gmake_y 2 0 ⟨#[]⟩ hy (by unfold IsInt; omega) (by unfold IsInt; omega) (by decide) hc h
  generalize mkI s 2 0 ⟨#[]⟩ = i at *
  generalize mkE s 2 0 ⟨#[]⟩ = e0 at *
  generalize mkT s 2 0 ⟨#[]⟩ = s1 at *
  clear h hy
  go_enter Tryz.func32, Tryz.ntmps32
  go_wp2_with fail
  refine hmk.mono ?_
  rintro e w1 ⟨rfl, F1, hp1, hg1⟩
  have H1 := Lib.hid (And.intro hp1 hg1)
  clear hmk hp1 hg1
  go_wp2_with fail
  go_ret2
  exact ⟨rfl, F1, H1.out.1, H1.out.2⟩
end Go.Proofs.YtpoocbkligjgbaaGreatDoor

namespace Go.Proofs.YtpoocbkligjgbaaGreatDoor
open Go.RowKit Go.Sort Go.Lib

/-- At cb stands the change c of the pager at p. -/
structure ChP (cb p pd pf b : Nat) (c : ChS) (v1 v2 : Value) (F0 : List Nat) (w : World) : Prop where
  has : Has w cb 83 #[.pointer (some ⟨p, 0, none⟩), v1, v2]
  r1 : NInts w 0 v1 c.made
  r2 : NInts w 0 v2 c.old
  pg : PgIs p pd pf b c.s F0 w
  n0 : cb ∉ F0
  n1 : ∀ g, v1.ownBlock = some g → g ∉ F0
  n2 : ∀ g, v2.ownBlock = some g → g ∉ F0
  n12 : ∀ g, v1.ownBlock = some g → v2.ownBlock ≠ some g
def chF (cb : Nat) (v1 v2 : Value) (F0 : List Nat) : List Nat := cb :: (v1.ownBlock.toList ++ (v2.ownBlock.toList ++ F0))
def ChAt (cb p pd pf b : Nat) (c : ChS) (F : List Nat) (w : World) : Prop := ∃ v1 v2 F0, ChP cb p pd pf b c v1 v2 F0 w ∧ F = chF cb v1 v2 F0

section
variable {cb p pd pf b : Nat} {c : ChS} {v1 v2 : Value} {F0 F : List Nat} {w w' : World}
theorem NInts.lt {base : Nat} {v : Value} {l : List Int} (h : NInts w base v l) : ∀ g, v.ownBlock = some g → g < w.heap.size := fun g hg => by
  rcases h.2 with ⟨rfl, _⟩ | ⟨g', cap, cur, rfl, _, hgc, _⟩
  · simp [Value.ownBlock] at hg
  · simp [Value.ownBlock] at hg
    subst hg
    exact (Array.getElem?_eq_some_iff.1 hgc).1
theorem ChP.below (h : ChP cb p pd pf b c v1 v2 F0 w) (hb : Below w.heap.size w w') : ChP cb p pd pf b c v1 v2 F0 w' :=
  ⟨h.has.below hb h.has.inside, h.r1.below hb, h.r2.below hb, h.pg.below hb, h.n0, h.n1, h.n2, h.n12⟩
theorem ChP.kept0 (h : ChP cb p pd pf b c v1 v2 F0 w) (hk : Kept [] w w') : ChP cb p pd pf b c v1 v2 F0 w' :=
  ⟨h.has.kept hk (by simp), row_kept h.r1 hk (by simp), row_kept h.r2 hk (by simp), h.pg.kept hk (by simp), h.n0, h.n1, h.n2, h.n12⟩
theorem goes_drew (G : List Nat) (w : World) : Goes G w G w.drew := ⟨(Kept.refl G w).drew, fun _ h => .inl h⟩
theorem ChP.lt (h : ChP cb p pd pf b c v1 v2 F0 w) : ∀ x ∈ chF cb v1 v2 F0, x < w.heap.size := fun x hx => by
  simp only [chF, List.mem_cons, List.mem_append, Option.mem_toList] at hx
  rcases hx with rfl | hx | hx | hx
  · exact h.has.inside
  · exact h.r1.lt _ hx
  · exact h.r2.lt _ hx
  · exact h.pg.lt _ hx
theorem ChAt.below (h : ChAt cb p pd pf b c F w) (hb : Below w.heap.size w w') : ChAt cb p pd pf b c F w' := by
  obtain ⟨v1, v2, F0, h1, h2⟩ := h
  exact ⟨v1, v2, F0, h1.below hb, h2⟩
/-- What the pager does, seen from the change. -/
theorem ChP.pager (h : ChP cb p pd pf b c v1 v2 F0 w) {s' : PgS} {F0' : List Nat} (hp : PgIs p pd pf b s' F0' w') (hg : Goes F0 w F0' w') :
    ChP cb p pd pf b { c with s := s' } v1 v2 F0' w' ∧ Goes (chF cb v1 v2 F0) w (chF cb v1 v2 F0') w' := by
  have hno : ∀ x, x ∉ F0 → x < w.heap.size → x ∉ F0' := fun x h1 h2 h3 => by
    rcases hg.2 x h3 with h4 | h4
    · exact h1 h4
    · omega
  refine ⟨⟨h.has.kept hg.1 h.n0, row_kept h.r1 hg.1 h.n1, row_kept h.r2 hg.1 h.n2, hp, hno _ h.n0 h.has.inside, fun g hg' => hno _ (h.n1 g hg') (h.r1.lt g hg'), fun g hg' => hno _ (h.n2 g hg') (h.r2.lt g hg'), h.n12⟩, hg.1.mono fun k hk => .inl ?_, fun k hk => ?_⟩
  · simp only [chF, List.mem_cons, List.mem_append]
    exact .inr (.inr (.inr hk))
  · simp only [chF, List.mem_cons, List.mem_append] at hk ⊢
    rcases hk with h1 | h1 | h1 | h1
    · exact .inl (.inl h1)
    · exact .inl (.inr (.inl h1))
    · exact .inl (.inr (.inr (.inl h1)))
    · rcases hg.2 k h1 with h2 | h2
      · exact .inl (.inr (.inr (.inr h2)))
      · exact .inr h2
/-- Where a row that grew lies. -/
def Placed (w : World) (v v' : Value) : Prop := v'.ownBlock = v.ownBlock ∨ ∃ k, v'.ownBlock = some k ∧ w.heap.size ≤ k
/-- A row of pages that is left grew, and stands in the change now. -/
theorem ChP.left (h : ChP cb p pd pf b c v1 v2 F0 w) {v2' : Value} {l : List Int} (hr : NInts w' 0 v2' l) (hpl : Placed w v2 v2') (hg : w.grownBy w' v2.ownBlock) :
    ChP cb p pd pf b { c with old := l } v1 v2' F0 (w'.setCell ⟨cb, 2, none⟩ v2') ∧ Goes (chF cb v1 v2 F0) w (chF cb v1 v2' F0) (w'.setCell ⟨cb, 2, none⟩ v2') := by
  have hcb : some cb ≠ v2.ownBlock := fun e => by
    rcases h.r2.2 with ⟨h0, _⟩ | ⟨g, cap, cur, h0, _, hgc, _⟩
    · rw [h0] at e; simp [Value.ownBlock] at e
    · rw [h0] at e
      simp [Value.ownBlock] at e
      subst e
      have h3 : w.heap[cb]? = _ := h.has
      rw [hgc] at h3
      simp at h3
  have hK : Kept (chF cb v1 v2 F0) w w' := Kept.of_grown hg (fun k hk => by simp [chF, hk])
  have hK2 := hK.setCell (p := ⟨cb, 2, none⟩) (.inl (by simp [chF])) v2'
  have h1 : Has w' cb 83 #[.pointer (some ⟨p, 0, none⟩), v1, v2] := (hg.block cb h.has.inside hcb).trans h.has
  have h2 := h1.put 2 v2'
  have hno : ∀ x, v2'.ownBlock = some x → x ∉ F0 := fun x hx hF => by
    rcases hpl with e | ⟨k, e, hk⟩
    · exact h.n2 x (e ▸ hx) hF
    · rw [e] at hx
      simp at hx
      have := h.pg.lt x hF
      omega
  have h12 : ∀ g, v1.ownBlock = some g → v2'.ownBlock ≠ some g := fun g hg1 hg2 => by
    rcases hpl with e | ⟨k, e, hk⟩
    · exact h.n12 g hg1 (e ▸ hg2)
    · rw [e] at hg2
      simp at hg2
      have := h.r1.lt g hg1
      omega
  have hr1 : NInts w' 0 v1 c.made := row_kept h.r1 (Kept.of_grown (F := v2.ownBlock.toList) hg (fun k hk => by simp [hk])) (fun g hg1 hm => h.n12 g hg1 (by simpa using hm))
  have hpg : PgIs p pd pf b c.s F0 w' := h.pg.kept (Kept.of_grown (F := v2.ownBlock.toList) hg (fun k hk => by simp [hk])) (fun x hx hm => h.n2 x (by simpa using hm) hx)
  refine ⟨⟨by simpa using h2, row_put hr1 h1 (by decide), row_put hr h1 (by decide), hpg.kept (Kept.setCell (Kept.refl [cb] w') (p := ⟨cb, 2, none⟩) (.inl (by simp)) v2') (fun x hx hm => h.n0 (by simp at hm; rw [← hm]; exact hx)), h.n0, h.n1, hno, h12⟩, hK2, fun k hk => ?_⟩
  simp only [chF, List.mem_cons, List.mem_append, Option.mem_toList] at hk ⊢
  rcases hk with h1 | h1 | h1 | h1
  · exact .inl (.inl h1)
  · exact .inl (.inr (.inl h1))
  · rcases hpl with e | ⟨k', e, hk⟩
    · exact .inl (.inr (.inr (.inl (e ▸ h1))))
    · rw [e] at h1
      simp at h1
      exact .inr (by omega)
  · exact .inl (.inr (.inr (.inr h1)))
/-- The same of the pages that are made. -/
theorem ChP.making (h : ChP cb p pd pf b c v1 v2 F0 w) {v1' : Value} {l : List Int} (hr : NInts w' 0 v1' l) (hpl : Placed w v1 v1') (hg : w.grownBy w' v1.ownBlock) :
    ChP cb p pd pf b { c with made := l } v1' v2 F0 (w'.setCell ⟨cb, 1, none⟩ v1') ∧ Goes (chF cb v1 v2 F0) w (chF cb v1' v2 F0) (w'.setCell ⟨cb, 1, none⟩ v1') := by
  have hcb : some cb ≠ v1.ownBlock := fun e => by
    rcases h.r1.2 with ⟨h0, _⟩ | ⟨g, cap, cur, h0, _, hgc, _⟩
    · rw [h0] at e; simp [Value.ownBlock] at e
    · rw [h0] at e
      simp [Value.ownBlock] at e
      subst e
      have h3 : w.heap[cb]? = _ := h.has
      rw [hgc] at h3
      simp at h3
  have hK : Kept (chF cb v1 v2 F0) w w' := Kept.of_grown hg (fun k hk => by simp [chF, hk])
  have hK2 := hK.setCell (p := ⟨cb, 1, none⟩) (.inl (by simp [chF])) v1'
  have h1 : Has w' cb 83 #[.pointer (some ⟨p, 0, none⟩), v1, v2] := (hg.block cb h.has.inside hcb).trans h.has
  have h2 := h1.put 1 v1'
  have hno : ∀ x, v1'.ownBlock = some x → x ∉ F0 := fun x hx hF => by
    rcases hpl with e | ⟨k, e, hk⟩
    · exact h.n1 x (e ▸ hx) hF
    · rw [e] at hx
      simp at hx
      have := h.pg.lt x hF
      omega
  have h12 : ∀ g, v1'.ownBlock = some g → v2.ownBlock ≠ some g := fun g hg1 hg2 => by
    rcases hpl with e | ⟨k, e, hk⟩
    · exact h.n12 g (e ▸ hg1) hg2
    · rw [e] at hg1
      simp at hg1
      have := h.r2.lt g hg2
      omega
  have hr2 : NInts w' 0 v2 c.old := row_kept h.r2 (Kept.of_grown (F := v1.ownBlock.toList) hg (fun k hk => by simp [hk])) (fun g hg1 hm => h.n12 g (by simpa using hm) hg1)
  have hpg : PgIs p pd pf b c.s F0 w' := h.pg.kept (Kept.of_grown (F := v1.ownBlock.toList) hg (fun k hk => by simp [hk])) (fun x hx hm => h.n1 x (by simpa using hm) hx)
  refine ⟨⟨by simpa using h2, row_put hr h1 (by decide), row_put hr2 h1 (by decide), hpg.kept (Kept.setCell (Kept.refl [cb] w') (p := ⟨cb, 1, none⟩) (.inl (by simp)) v1') (fun x hx hm => h.n0 (by simp at hm; rw [← hm]; exact hx)), h.n0, hno, h.n2, h12⟩, hK2, fun k hk => ?_⟩
  simp only [chF, List.mem_cons, List.mem_append, Option.mem_toList] at hk ⊢
  rcases hk with h1 | h1 | h1 | h1
  · exact .inl (.inl h1)
  · rcases hpl with e | ⟨k', e, hk⟩
    · exact .inl (.inr (.inl (e ▸ h1)))
    · rw [e] at h1
      simp at h1
      exact .inr (by omega)
  · exact .inl (.inr (.inr (.inl h1)))
  · exact .inl (.inr (.inr (.inr h1)))
end

section
variable {ops : Array Oper} {rest : List Oper} {o : Oper} {a : Act} {Q : Exit → Act → World → Prop}
/-- append(row, x) of one number that was laid just now. -/
theorem append_one (hgd : o.guard = none) (s x : Operand) (ho : o.op = .call { callee := .builtin .append, args := #[s, x], argTypes := #[49, 49] }) (w : World) (v : Value) (l : List Int) (hs : a.eval s = v) (hown : NInts w 0 v l) (y : Int)
    (B : Nat) (hB : B = w.heap.size) (hx : a.eval x = .slice (some ⟨B, 0, none⟩) 1 1) (hlen : l.length ≤ 1000000)
    (h : ∀ v' w', NInts w' 0 v' (l ++ [y]) → Placed w v v' → w.grownBy w' v.ownBlock → wpList Tryz.prog ops Q rest (a.put o.dst v') w') : wpList Tryz.prog ops Q (o :: rest) a (w.alloc (.cells #[.int .i64 y] 3)) := by
  refine append_fresh hgd s x 49 3 (.int .i64 0) 8 Tryz.underlying49 Tryz.infoIntO rfl (by decide) ho w v l.length _ hs hown (.int .i64 y) rfl B hB hx hlen ?_
  intro v' w' h1 h2 h3
  refine h v' w' ?_ ?_ h3
  · unfold NInts
    rw [List.length_append, List.map_append]
    exact h1
  · rcases h2 with ⟨h4, _⟩ | ⟨k, h4, h5⟩
    · exact .inl h4
    · exact .inr ⟨k, h4, Nat.le_of_lt h5⟩
end
end Go.Proofs.YtpoocbkligjgbaaGreatDoor

namespace Go.Proofs.YtpoocbkligjgbaaGreatDoor
open Go.RowKit Go.Sort Go.Lib

section
variable {p pd pf b : Nat} {s : PgS} {F : List Nat} {w : World}

set_option maxRecDepth 1000000 in
set_option maxHeartbeats 4000000 in
theorem trdropAll_any {v : Value} {L : List Int} (hy : Yg s) (hn : L.Nodup) (hf : ∀ x ∈ L, (s.H x).fate = 1) (hc : s.n + L.length < 1000000) (hv : ReadsO F w v (L.map (.int .i64))) (h : PgIs p pd pf b s F w) :
    Calls Tryz.prog 73 #[.pointer (some ⟨p, 0, none⟩), v] w fun e w' => e = .returned (.tuple #[]) ∧ ∃ F', PgIs p pd pf b (drAll s L) F' w' ∧ Goes F w F' w' := by
  obtain ⟨A, c, rfl⟩ := hv.form
  obtain ⟨N, hN⟩ : ∃ N, L.length = N := ⟨_, rfl⟩
  have HH := Lib.hid (And.intro hy (And.intro hn (And.intro hf (And.intro hc (And.intro hv (And.intro h hN))))))
  have hNb : N ≤ 1000000 := by omega
  rw [hN]
  clear hy hn hf hc hv h hN
  go_enter Tryz.func73, Tryz.ntmps73
  go_wp2_with fail
  go_loopg [8] N (fun g iv wr => ∃ (j : Nat), iv = .int .i64 j ∧ j + g = N ∧ ∃ F', PgIs p pd pf b (drAll s (L.take j)) F' wr ∧ Goes F w F' wr)
  case atStart => exact ⟨0, rfl, by omega, F, HH.out.2.2.2.2.2.1, Goes.refl _ _⟩
  case round =>
    obtain ⟨j, rfl, hjg, F1, hp, hg⟩ := hrel
    by_cases hlt : j < N
    · obtain ⟨hy, hn, hf, hc, hv, -, hN⟩ := HH.out
      have d1 : decide ((j : Int) < (N : Int)) = true := by simp; omega
      have hjl : j < L.length := by rw [hN]; exact hlt
      obtain ⟨g, off, c', hv', hck⟩ := (hv.goes hg).at j hjl
      simp only [Value.slice.injEq] at hv'
      obtain ⟨rfl, _, rfl⟩ := hv'
      have htk := take_snoc1 L j hjl
      have hyj := drAll_yg hy (L.take j) (hn.sublist (List.take_sublist _ _)) (fun x hx => hf x (List.mem_of_mem_take hx))
      have hnj : L[j] ∉ L.take j := fun hm => by
        have h2 := htk ▸ hn.sublist (List.take_sublist (j + 1) L)
        exact (List.nodup_append.1 h2).2.2 _ hm _ (by simp) rfl
      have hfj : ((drAll s (L.take j)).H L[j]).fate = 1 := by rw [drAll_at _ _ _ hnj]; exact hf _ (List.getElem_mem hjl)
      have hdr := gdrop_y L[j] hyj hfj (by rw [drAll_n, List.length_take]; omega) hp
      have hsn := drAll_snoc s (L.take j) L[j]
      rw [← htk] at hsn
      rw [← hsn] at hdr
      have HG := Lib.hid (And.intro hg hjg)
      have hj0 : (0 : Int) ≤ (j : Int) := by omega
      have hj1 : (j : Int) < (N : Int) := by omega
      generalize L[j] = y at *
      clear hy hn hf hc hv hN htk hyj hnj hfj hsn hg hp hjg
      go_wp2_with fail
      refine hdr.mono ?_
      rintro e w1 ⟨rfl, F2, hp2, hg2⟩
      have H2 := Lib.hid (And.intro hp2 (HG.out.1.trans hg2))
      clear hdr hp2 hg2
      go_wp2_with fail
      go_roundg (N - (j + 1))
      case measure => have := HG.out.2; omega
      case rel => exact ⟨j + 1, by go_num, by omega, F2, H2.out.1, H2.out.2⟩
    · obtain rfl : j = N := by omega
      have d1 : decide ((j : Int) < (j : Int)) = false := by simp
      have hfull : L.take j = L := List.take_of_length_le (by rw [HH.out.2.2.2.2.2.2]; exact Nat.le_refl _)
      rw [hfull] at hp
      have H2 := Lib.hid (And.intro hp hg)
      clear hlt hp hg hfull
      go_wp2_with fail
      go_end0
      exact ⟨rfl, F1, H2.out.1, H2.out.2⟩

end

section
variable {cb p pd pf b : Nat} {c : ChS} {F : List Nat} {w : World}

set_option maxRecDepth 100000 in
set_option maxHeartbeats 2000000 in
/-- The end of a change with an error; without one. -/
theorem chend_any (root e0 : Int) {L : List Int} (hL : L = if e0 ≠ 0 then c.made else c.old) (hy : Yg c.s) (hn : L.Nodup) (hf : ∀ x ∈ L, (c.s.H x).fate = 1) (hc : c.s.n + L.length < 1000000) (h : ChAt cb p pd pf b c F w) :
    Calls Tryz.prog 42 #[.pointer (some ⟨cb, 0, none⟩), .int .i64 root, .int .i64 e0] w fun e w' => e = .returned (.tuple #[.int .i64 (if e0 ≠ 0 then 0 else root), .int .i64 e0]) ∧ ∃ F', ChAt cb p pd pf b { c with s := drAll c.s L } F' w' ∧ Goes F w F' w' := by
  obtain ⟨v1, v2, F0, hp, rfl⟩ := h
  have q0 := hp.has.cell 0
  have q1 := hp.has.cell 1
  have q2 := hp.has.cell 2
  simp at q0 q1 q2
  by_cases he : e0 = 0
  · subst he
    rw [if_neg (by simp)] at hL ⊢
    subst hL
    have hpd := hp.kept0 ((Kept.refl [] w).drew)
    have hro : ReadsO F0 w.drew v2 (c.old.map (.int .i64)) := row_readsO hpd.r2 hpd.n2
    have hdr := trdropAll_any hy hn hf hc hro hpd.pg
    have k0 : w.drew.cell? ⟨cb, 0, none⟩ = some (.pointer (some ⟨p, 0, none⟩)) := q0
    have k2 : w.drew.cell? ⟨cb, 2, none⟩ = some v2 := q2
    have HP := Lib.hid hpd
    clear hp hpd hro hy hn hf hc 
    generalize drAll c.s c.old = s1 at *
    go_enter Tryz.func42, Tryz.ntmps42
    go_wp2_with fail
    clear q0 q1 q2
    go_region_held3 (fun w' => w'.cell? ⟨cb, 0, none⟩ = some (.pointer (some ⟨p, 0, none⟩)) ∧ w'.cell? ⟨cb, 2, none⟩ = some v2) (first | exact ⟨k0, k2⟩ | exact HK.out) (first
      | (go_at_call 73; refine hdr.mono ?_; rintro e w1 ⟨rfl, F1, hp1, hg1⟩
         obtain ⟨h1, h2⟩ := HP.out.pager hp1 hg1
         have r0 := h1.has.cell 0
         have r2 := h1.has.cell 2
         simp at r0 r2
         have HK := Lib.hid (And.intro r0 r2)
         have H1 := Lib.hid (And.intro h1 ((goes_drew _ w).trans h2))
         clear hp1 hg1 h1 h2 r0 r2))
    clear k0 k2 hdr HK
    go_wp2_with fail
    go_ret2
    exact ⟨rfl, _, ⟨v1, v2, F1, H1.out.1, rfl⟩, H1.out.2⟩
  · rw [if_pos he] at hL ⊢
    subst hL
    have g4 : (e0 != 0) = true := by simpa using he
    have hpd := hp.kept0 ((Kept.refl [] w).drew)
    have hro : ReadsO F0 w.drew v1 (c.made.map (.int .i64)) := row_readsO hpd.r1 hpd.n1
    have hdr := trdropAll_any hy hn hf hc hro hpd.pg
    have k0 : w.drew.cell? ⟨cb, 0, none⟩ = some (.pointer (some ⟨p, 0, none⟩)) := q0
    have k2 : w.drew.cell? ⟨cb, 1, none⟩ = some v1 := q1
    have HP := Lib.hid hpd
    clear hp hpd hro hy hn hf hc he
    generalize drAll c.s c.made = s1 at *
    go_enter Tryz.func42, Tryz.ntmps42
    go_wp2_with fail
    clear q0 q1 q2
    go_region_held3 (fun w' => w'.cell? ⟨cb, 0, none⟩ = some (.pointer (some ⟨p, 0, none⟩)) ∧ w'.cell? ⟨cb, 1, none⟩ = some v1) (first | exact ⟨k0, k2⟩ | exact HK.out) (first
      | (go_at_call 73; refine hdr.mono ?_; rintro e w1 ⟨rfl, F1, hp1, hg1⟩
         obtain ⟨h1, h2⟩ := HP.out.pager hp1 hg1
         have r0 := h1.has.cell 0
         have r2 := h1.has.cell 1
         simp at r0 r2
         have HK := Lib.hid (And.intro r0 r2)
         have H1 := Lib.hid (And.intro h1 ((goes_drew _ w).trans h2))
         clear hp1 hg1 h1 h2 r0 r2))
    clear k0 k2 hdr HK
    go_wp2_with fail
    go_ret2
    exact ⟨rfl, _, ⟨v1, v2, F1, H1.out.1, rfl⟩, H1.out.2⟩

set_option maxRecDepth 100000 in
set_option maxHeartbeats 4000000 in
/-- A page of a body that was laid. -/
theorem chpage_any (k : Int) (t : ByteArray) (laid : Int) (hk : IsInt k) (ht : t.size ≤ 281474976710656) (hy : Yg c.s) (hc : c.s.n < 1000000) (hm : c.made.length ≤ 1000000) (h : ChAt cb p pd pf b c F w) :
    Calls Tryz.prog 135 #[.pointer (some ⟨cb, 0, none⟩), .int .i64 k, .string t, .int .i64 laid] w fun e w' => e = .returned (.tuple #[.int .i64 (pgI c k t laid), .int .i64 (pgE c k t laid)]) ∧ ∃ F', ChAt cb p pd pf b (pgT c k t laid) F' w' ∧ Goes F w F' w' := by
  by_cases hl : laid = 0
  · subst hl
    have e1 : pgE c k t 0 = mkE c.s k 0 t := by unfold pgE; rw [if_neg (by simp)]
    obtain ⟨v1, v2, F0, hp, rfl⟩ := h
    have q0 := hp.has.cell 0
    simp at q0
    have hmk := gmake_y k 0 t hy hk (by unfold IsInt; omega) ht hc hp.pg
    by_cases hE : mkE c.s k 0 t = 0
    · have e2 : pgI c k t 0 = cand c.s := by unfold pgI; rw [e1, if_pos hE]
      have e3 : pgT c k t 0 = { c with s := mkS c.s k 0 t, made := c.made ++ [cand c.s] } := by unfold pgT; rw [e1, if_pos hE]
      have e4 : mkI c.s k 0 t = cand c.s := by unfold mkI; rw [if_pos hE]
      have e5 : mkT c.s k 0 t = mkS c.s k 0 t := by unfold mkT; rw [if_pos hE]
      rw [e1, e2, e3, hE]
      rw [e4, e5, hE] at hmk
      generalize cand c.s = y at *
      generalize mkS c.s k 0 t = s1 at *
      have HP := Lib.hid hp
      clear hp e1 e2 e3 e4 e5 hE hy
      go_enter Tryz.func135, Tryz.ntmps135
      go_wp2_with fail
      refine hmk.mono ?_
      rintro e w1 ⟨rfl, F1, hp1, hg1⟩
      obtain ⟨h1, h2⟩ := HP.out.pager hp1 hg1
      have hh := h1.has
      have hr1 := h1.r1
      obtain ⟨A1, c1, rfl⟩ := row_form h1.r1
      have q1 := hh.cell 1
      simp at q1
      obtain ⟨B, hB⟩ : ∃ B, B = w1.heap.size := ⟨_, rfl⟩
      have H1 := Lib.hid (And.intro h1 h2)
      clear hmk hp1 hg1 h1 h2 hh
      go_wp2_with (at_builtin; refine append_one rfl _ _ rfl w1 (.slice A1 c.made.length c1) c.made rfl hr1 y _ rfl rfl hm ?_; intro v' w2 hr2 hpl hgr; obtain ⟨k1, k2⟩ := H1.out.1.making hr2 hpl hgr; have hh2 := hasT_grown H1.out.1.has (by decide) H1.out.1.r1 hgr; have j1 := hh2.cell 1; simp at j1; have i1 := hh2.free 1; obtain ⟨A2, c2, rfl⟩ : ∃ A2 c2, v' = .slice A2 (c.made.length + 1) c2 := (by obtain ⟨A, c', h⟩ := row_form hr2; exact ⟨A, c', by rw [h, List.length_append]; rfl⟩); have H2 := Lib.hid (And.intro k1 k2); clear hr2 hpl hgr k1 k2 hh2)
      go_ret2
      exact ⟨rfl, _, ⟨_, _, _, H2.out.1, rfl⟩, H1.out.2.trans H2.out.2⟩
    · have e2 : pgI c k t 0 = 0 := by unfold pgI; rw [e1, if_neg hE]
      have e3 : pgT c k t 0 = c := by unfold pgT; rw [e1, if_neg hE]
      have e4 : mkI c.s k 0 t = 0 := by unfold mkI; rw [if_neg hE]
      have e5 : mkT c.s k 0 t = c.s := by unfold mkT; rw [if_neg hE]
      rw [e1, e2, e3]
      rw [e4, e5] at hmk
      generalize mkE c.s k 0 t = r at *
      have g4 : (r != 0) = true := by simpa using hE
      have HP := Lib.hid hp
      clear hp e1 e2 e3 e4 e5 hE hy
      go_enter Tryz.func135, Tryz.ntmps135
      go_wp2_with fail
      refine hmk.mono ?_
      rintro e w1 ⟨rfl, F1, hp1, hg1⟩
      obtain ⟨h1, h2⟩ := HP.out.pager hp1 hg1
      have H1 := Lib.hid (And.intro h1 h2)
      clear hmk hp1 hg1 h1 h2
      go_wp2_with fail
      go_ret2
      exact ⟨rfl, _, ⟨v1, v2, F1, H1.out.1, rfl⟩, H1.out.2⟩
  · have e1 : pgE c k t laid = 15 := by unfold pgE; rw [if_pos hl]
    have e2 : pgI c k t laid = 0 := by unfold pgI; rw [e1]; rfl
    have e3 : pgT c k t laid = c := by unfold pgT; rw [e1]; rfl
    rw [e1, e2, e3]
    have g4 : (laid != 0) = true := by simpa using hl
    have HP := Lib.hid h
    clear h hl e1 e2 e3 hy
    go_enter Tryz.func135, Tryz.ntmps135
    go_wp2_with fail
    go_ret2
    exact ⟨rfl, F, HP.out, Goes.refl _ _⟩
end
end Go.Proofs.YtpoocbkligjgbaaGreatDoor

namespace Go.Proofs.YtpoocbkligjgbaaGreatDoor
open Go.RowKit Go.Lib Go.Shelf

attribute [local go_sem] Oper.semAt_some

/-- In block g, from off on, stand so many steps. -/
def StepsIn (g off len : Nat) (S : Nat → Stp × Value) (W : World) : Prop := ∀ i, i < len → W.cell? ⟨g, off + i * 3, none⟩ = some (.int .i64 (S i).1.page) ∧ W.cell? ⟨g, off + i * 3 + 1, none⟩ = some (S i).2 ∧ W.cell? ⟨g, off + i * 3 + 2, none⟩ = some (.int .i64 (S i).1.place)
theorem StepsIn.kept {g off len : Nat} {S : Nat → Stp × Value} {W W' : World} (h : StepsIn g off len S W) (hg : W'.heap[g]? = W.heap[g]?) : StepsIn g off len S W' := fun i hi => by
  obtain ⟨h1, h2, h3⟩ := h i hi
  rw [← h1, ← h2, ← h3]
  simp only [World.cell?]
  rw [hg]
  exact ⟨rfl, rfl, rfl⟩
def stepV (x : Stp × Value) : Value := .agg #[.int .i64 x.1.page, x.2, .int .i64 x.1.place]

set_option maxRecDepth 100000 in
set_option maxHeartbeats 2000000 in
theorem backS1_in (F : Fence) (n : Nat) (hf : F.fn 199) (hro : F.round = none) (hn : 1 ≤ n) (y Bs g off len cap : Nat) (ad : Option Addr) (S : Nat → Stp × Value) (hlen : len ≤ 100000) (had : 0 < len → ad = some ⟨g, off, none⟩) (hv : ∀ i, i < len → ∃ A n c, (S i).2 = .slice A n c) (J Jx : List Nat → World → Prop) (_hJd : ∀ pre W q, J pre W → J pre (W.drewN q))
    (hY : ∀ pre (k : Nat) W, J pre W → pre.length < len → YieldAt F (n - 1) Tryz.prog y #[.int .i64 k, stepV (S k)] W fun e W' =>
      (e = .returned (.bool true) ∧ J (pre ++ [k]) W' ∧ W'.heap[Bs]? = W.heap[Bs]? ∧ W'.heap[g]? = W.heap[g]?) ∨ (e = .returned (.bool false) ∧ Jx (pre ++ [k]) W'))
    (W : World) (hBs : W.heap[Bs]? = some (.cells #[.slice ad len cap] 119 (0, 0))) (hg : StepsIn g off len S W) (h0 : J [] W) :
    CallsIn F n Tryz.prog 199 #[.func (.yield y) #[] #[], .pointer (some ⟨Bs, 0, none⟩)] W fun e W' => (∃ v, e = .returned v) ∧ (J (backL len len) W' ∨ ∃ k, k ≤ len ∧ Jx (backL len k) W') := by
  cases F
  simp only at hro
  subst hro
  refine callsIn_of_wp Tryz.func199 rfl hf ?_ rfl
  simp only [Tryz.ntmps199, List.size_toArray, List.length_cons, List.length_nil, Nat.reduceAdd, Nat.reduceSub, Array.replicate_succ, Array.replicate_zero, List.push_toArray, List.append_toArray, List.nil_append, List.cons_append]
  have c1 : W.cell? ⟨Bs, 0, none⟩ = some (.slice ad len cap) := by simp [World.cell?, hBs]
  have HB := Lib.hid (And.intro hBs hg)
  clear hBs hg
  gi_wp2
  gi_loopw [3] (fun i wr => ∃ j : Nat, j ≤ len ∧ i = .int .i64 ((len : Int) - 1 - j) ∧ J (backL len j) wr ∧ wr.heap[Bs]? = some (.cells #[.slice ad len cap] 119 (0, 0)) ∧ StepsIn g off len S wr)
    (fun i _ => (intOf i + 1).toNat)
  case atStart => exact ⟨0, Nat.zero_le _, by go_num, h0, HB.out.1, HB.out.2⟩
  case round =>
    obtain ⟨j, hj, rfl, hJs, hBs, hg⟩ := hrel
    have c1 : wr.cell? ⟨Bs, 0, none⟩ = some (.slice ad len cap) := by simp [World.cell?, hBs]
    by_cases hlt : j < len
    · obtain ⟨k, hk⟩ : ∃ k : Nat, len - 1 - j = k := ⟨_, rfl⟩
      have hki : (len : Int) - 1 - j = (k : Int) := by omega
      have hkl : k < len := by omega
      obtain ⟨hc0, hc1, hc2⟩ := hg k hkl
      have had1 := had (by omega)
      subst had1
      obtain ⟨A3, n3, c3, hv3⟩ := hv k hkl
      have hsv : stepV (S k) = .agg #[.int .i64 (S k).1.page, .slice A3 n3 c3, .int .i64 (S k).1.place] := by unfold stepV; rw [hv3]
      rw [hv3] at hc1
      have hk0 : (0 : Int) ≤ (k : Int) := by omega
      have hk1 : (k : Int) < (len : Int) := by omega
      have hbk : backL len (j + 1) = backL len j ++ [k] := by rw [backL_succ, hk]
      have hjb : (backL len j).length < len := by rw [backL_length]; exact hlt
      rw [hki]
      have HK := Lib.hid (And.intro hk (And.intro hki (And.intro hbk (And.intro hBs (And.intro hg hj)))))
      have hkb : k ≤ 100000 := by omega
      clear hk hki hbk hBs hg hj hlt
      obtain ⟨fn, tmps, assign, body, hy, hR⟩ := hY _ k wr hJs hjb
      rw [hsv] at hy
      generalize (S k).1.page = pg3 at *
      generalize ((S k).1.place : Int) = pl3 at *
      clear hsv hv3 hv had
      gi_wp2
      refine hR.mono ?_
      rintro e W3 (⟨rfl, hJ3, g1, g2⟩ | ⟨rfl, hJx3⟩)
      · obtain ⟨hk, hki, hbk, hBs, hg, hj⟩ := HK.out
        have HG := Lib.hid (And.intro hJ3 (And.intro (g1.trans hBs) (hg.kept g2)))
        clear hJ3 g1 g2 hBs hg hk hki hbk hj
        gi_wp2
        go_roundw
        case rel => exact ⟨j + 1, by rw [backL_length] at hjb; omega, by have := HK.out.2.1; go_num, by rw [HK.out.2.2.1]; exact HG.out.1, HG.out.2.1, HG.out.2.2⟩
        case measure => simp [intOf]
      · gi_wp2
        refine bodyPost_ret (results_none rfl _ _ _) rfl ?_
        refine ⟨⟨_, rfl⟩, .inr ⟨j + 1, by rw [backL_length] at hjb; omega, ?_⟩⟩
        rw [HK.out.2.2.1]
        exact hJx3
    · obtain rfl : j = len := by omega
      have hd : decide ((j : Int) - 1 - j ≥ 0) = false := by simp; omega
      gi_wp2
      go_end0
      exact ⟨⟨_, rfl⟩, .inl hJs⟩


set_option maxRecDepth 100000 in
set_option maxHeartbeats 1000000 in
theorem backS_in (F : Fence) (n : Nat) (hf : F.fn 137) (hro : F.round = none) (a : Option Addr) (len cap : Nat) (w : World) :
    CallsIn F n Tryz.prog 137 #[.slice a len cap] w fun e w' => e = .returned (.func (.func 199) #[] #[.pointer (some ⟨w.heap.size, 0, none⟩)]) ∧ w' = w.alloc (.cells #[.slice a len cap] 119) := by
  cases F
  simp only at hro
  subst hro
  refine callsIn_of_wp Tryz.func137 rfl hf ?_ rfl
  simp only [Tryz.ntmps137, List.size_toArray, List.length_cons, List.length_nil, Nat.reduceAdd, Nat.reduceSub, Array.replicate_succ, Array.replicate_zero, List.push_toArray, List.append_toArray, List.nil_append, List.cons_append]
  gi_wp2
  go_ret
  exact ⟨rfl, rfl⟩
end Go.Proofs.YtpoocbkligjgbaaGreatDoor
