/-
  over's Put: a chain's pages, made from the last one on. over's Put, walked. over's Put, of every value. What a Put of over leaves: its chain, read back as it was put; how many pages there are. The first calls of over whose answers the document fixes.
-/
import Derived.Test.YtlignamakiiokaaGreatDoorMg38
import Derived.Test.YtlignamakiiokaaGreatDoorMg39
import Derived.Test.YtlignamakiiokaaGreatDoorMg40
namespace Go.Proofs.YtlignamakiiokaaGreatDoor
open Go.RowKit Go.Sort Go.Lib Go.Shelf

attribute [local go_sem] Oper.semAt_some

/-- Where a Put stands: the error, the page that was made last, all that were made, the pager. -/
structure PuS where
  e : Int
  next : Int
  made : List Int
  s : PgS
def puStep (v : ByteArray) (st : PuS) (k : Nat) : PuS :=
  if st.e ≠ 0 then st
  else if mkE st.s 4 st.next (pce v k) = 0 then ⟨0, cand st.s, st.made ++ [cand st.s], mkS st.s 4 st.next (pce v k)⟩
  else { st with e := mkE st.s 4 st.next (pce v k) }
def puL (v : ByteArray) (s : PgS) (pre : List Nat) : PuS := pre.foldl (puStep v) ⟨0, 0, [], s⟩
theorem puL_snoc (v : ByteArray) (s : PgS) (pre : List Nat) (k : Nat) : puL v s (pre ++ [k]) = puStep v (puL v s pre) k := by simp [puL]
theorem puStep_stuck {v : ByteArray} {st : PuS} (h : st.e ≠ 0) (l : List Nat) : l.foldl (puStep v) st = st := by
  induction l with
  | nil => rfl
  | cons k l ih =>
    show l.foldl (puStep v) (puStep v st k) = st
    rw [show puStep v st k = st by unfold puStep; rw [if_pos h]]
    exact ih
theorem puL_stuck {v : ByteArray} {s : PgS} {pre : List Nat} (h : (puL v s pre).e ≠ 0) (l : List Nat) : puL v s (pre ++ l) = puL v s pre := by
  unfold puL at *
  rw [List.foldl_append]
  exact puStep_stuck h l
theorem pce_small (v : ByteArray) (k : Nat) : (pce v k).size ≤ 240 := by
  unfold pce
  rw [ByteArray.size_extract]
  omega

structure PuOK (s : PgS) (m : Nat) (st : PuS) : Prop where
  yg : Yg st.s
  nodup : st.made.Nodup
  fate : ∀ x ∈ st.made, (st.s.H x).fate = 1
  n : st.s.n = s.n + st.made.length
  len : st.made.length ≤ m
  next : 0 ≤ st.next ∧ st.next ≤ 60
theorem PuOK.new {s : PgS} (h : Yg s) : PuOK s 0 ⟨0, 0, [], s⟩ := ⟨h, List.nodup_nil, by simp, rfl, Nat.le_refl _, by simp⟩
theorem mkS_at {s : PgS} (hy : Yg s) (k n : Int) (t : ByteArray) (x : Int) (hx : x ≠ cand s) : (mkS s k n t).H x = s.H x := by
  unfold mkS
  split
  · rename_i c
    show (upd s.H s.pages _) x = _
    rw [hy.cnd.2.2.2 c] at hx
    exact upd_other _ _ hx
  · show (upd s.H (cand s) _) x = _
    exact upd_other _ _ hx
theorem mkS_new {s : PgS} (hy : Yg s) (k n : Int) (t : ByteArray) : (mkS s k n t).H (cand s) = ⟨1, k, n, t⟩ := by
  unfold mkS
  split
  · rename_i c
    show (upd s.H s.pages _) (cand s) = _
    rw [hy.cnd.2.2.2 c]
    exact upd_same _ _ _
  · show (upd s.H (cand s) _) (cand s) = _
    exact upd_same _ _ _
theorem mkS_n (s : PgS) (k n : Int) (t : ByteArray) : (mkS s k n t).n = s.n + 1 := by unfold mkS; split <;> rfl
theorem cand_fresh {s : PgS} (hy : Yg s) : (s.H (cand s)).fate ≠ 1 := by
  obtain ⟨a1, a2, a3, a4⟩ := hy.cnd
  by_cases c : s.spare = []
  · rw [a4 c, hy.out _ (.inr (Int.le_refl _))]; decide
  · rw [(a3 c).2]; decide
theorem PuOK.step {s : PgS} {m : Nat} {st : PuS} (h : PuOK s m st) (v : ByteArray) (k : Nat) : PuOK s (m + 1) (puStep v st k) := by
  unfold puStep
  split
  · exact ⟨h.yg, h.nodup, h.fate, h.n, Nat.le_succ_of_le h.len, h.next⟩
  · split
    · rename_i hm
      have hcf := cand_fresh h.yg
      have hc := h.yg.cnd
      have hmo := h.yg.most
      have hfe := h.yg.few
      have hnm : cand st.s ∉ st.made := fun hx => hcf (h.fate _ hx)
      refine ⟨h.yg.made hm, ?_, fun x hx => ?_, ?_, ?_, by show 0 ≤ cand st.s ∧ cand st.s ≤ 60; omega⟩
      · show (st.made ++ [cand st.s]).Nodup
        rw [List.nodup_append]
        exact ⟨h.nodup, by simp, fun a ha b hb => by simp at hb; subst hb; exact fun e => hnm (e ▸ ha)⟩
      · show ((mkS st.s 4 st.next (pce v k)).H x).fate = 1
        by_cases e : x = cand st.s
        · rw [e, mkS_new h.yg]
        · rw [mkS_at h.yg _ _ _ _ e]
          have hx' : x ∈ st.made ++ [cand st.s] := hx
          simp [e] at hx'
          exact h.fate x hx'
      · show (mkS st.s 4 st.next (pce v k)).n = s.n + (st.made ++ [cand st.s]).length
        rw [mkS_n, h.n]
        simp
        omega
      · show (st.made ++ [cand st.s]).length ≤ m + 1
        have := h.len
        simp
        omega
    · exact ⟨h.yg, h.nodup, h.fate, h.n, Nat.le_succ_of_le h.len, h.next⟩
theorem puL_ok {s : PgS} (h : Yg s) (v : ByteArray) (pre : List Nat) : PuOK s pre.length (puL v s pre) := by
  have key : ∀ (l : List Nat) (m : Nat) (st : PuS), PuOK s m st → PuOK s (m + l.length) (l.foldl (puStep v) st) := by
    intro l
    induction l with
    | nil => intro m st h; exact h
    | cons k l ih =>
      intro m st h
      have := ih (m + 1) _ (h.step v k)
      rw [show m + (k :: l).length = m + 1 + l.length by simp; omega]
      exact this
  have := key pre 0 _ (PuOK.new h)
  rwa [Nat.zero_add] at this

def puE (s : PgS) (v : ByteArray) : Int := if v.size = 0 ∨ 2000 < v.size then 1 else (puL v s (backL (nP v.size) (nP v.size))).e
def puI (s : PgS) (v : ByteArray) : Int := if puE s v = 0 then (puL v s (backL (nP v.size) (nP v.size))).next else 0
def puT (s : PgS) (v : ByteArray) : PgS := if v.size = 0 ∨ 2000 < v.size then s else if puE s v = 0 then (puL v s (backL (nP v.size) (nP v.size))).s else drAll (puL v s (backL (nP v.size) (nP v.size))).s (puL v s (backL (nP v.size) (nP v.size))).made

/-- What stands between two rounds. -/
def PutI (p pd pf b : Nat) (s : PgS) (F : List Nat) (v : ByteArray) (B D : Nat) (w : World) (pre : List Nat) (W : World) : Prop :=
  (puL v s pre).e = 0 ∧ ∃ F1 mv, (PgIs p pd pf b (puL v s pre).s F1 W ∧ ∀ x ∈ F1, x ∈ F ∨ D ≤ x) ∧
    (Boxed W (B + 3) 69 mv ∧ W.ownsRow 0 3 1 mv (puL v s pre).made.length ((puL v s pre).made.map (Value.int .i64)) ∧ ∀ g, mv.ownBlock = some g → D ≤ g ∧ g ∉ F1) ∧
    (Boxed W B 31 (.pointer (some ⟨p, 0, none⟩)) ∧ Boxed W (B + 1) 3 (.int .i64 0) ∧ Boxed W (B + 2) 32 (.int .i64 0) ∧ Boxed W (B + 4) 3 (.int .i64 (puL v s pre).next)) ∧ Kept F w W ∧ D ≤ W.heap.size
/-- .. and where a round has left. -/
def PutX (p pd pf b : Nat) (s : PgS) (F : List Nat) (v : ByteArray) (B D : Nat) (w : World) (c : Code) (pre : List Nat) (W : World) : Prop :=
  (c = .ret ∧ (puL v s pre).e ≠ 0) ∧ ∃ F1, (PgIs p pd pf b (drAll (puL v s pre).s (puL v s pre).made) F1 W ∧ ∀ x ∈ F1, x ∈ F ∨ D ≤ x) ∧
    (Boxed W (B + 1) 3 (.int .i64 0) ∧ Boxed W (B + 2) 32 (.int .i64 (puL v s pre).e)) ∧ Kept F w W ∧ D ≤ W.heap.size

theorem boxed_turn {W Y : World} {row : Option Nat} {x : Nat} {t : TypeId} {u : Value} (h : Boxed W x t u) (hg : W.grownBy Y row) (hrow : ∀ r, row = some r → ∃ o : Obj, W.heap[r]? = some o ∧ o.isCells = false) : Boxed Y x t u :=
  h.kept hg (fun e' => by
    obtain ⟨o, ho, hc⟩ := hrow x e'.symm
    rw [show W.heap[x]? = _ from h] at ho; cases ho; cases hc)
theorem pg_turn {W Y : World} {row : Option Nat} {p pd pf b D : Nat} {s : PgS} {F1 : List Nat} (h : PgIs p pd pf b s F1 W) (hc : s.dev.cap = 0) (hb : b < D) (hg : W.grownBy Y row) (hrow : ∀ r, row = some r → D ≤ r ∧ ∃ o : Obj, W.heap[r]? = some o ∧ o.isCells = false) : PgIs p pd pf b s F1 Y := by
  refine h.kept (G := row.toList) (Kept.of_grown hg (fun k hk => by simp [hk])) (fun x hx hm => ?_)
  obtain ⟨h1, o, h2, h3⟩ := hrow x (by simpa using hm)
  rcases h.allCells hc x hx with rfl | ⟨o', h4, h5⟩
  · omega
  · rw [h2] at h4; cases h4; rw [h3] at h5; cases h5
theorem row_turn {W Y : World} {row : Option Nat} {mv : Value} {n : Nat} {xs : List Value} (h : W.ownsRow 0 3 1 mv n xs) (hg : W.grownBy Y row) (hrow : ∀ r, row = some r → ∃ o : Obj, W.heap[r]? = some o ∧ o.isCells = false) : Y.ownsRow 0 3 1 mv n xs := by
  refine h.kept hg ?_
  cases hv : mv.ownBlock with
  | none => exact .inl rfl
  | some g =>
    refine .inr (fun e => ?_)
    obtain ⟨o, ho, hc⟩ := hrow g e.symm
    obtain ⟨o', ho', hc'⟩ := cells_row h hv
    rw [ho] at ho'; cases ho'; rw [hc] at hc'; cases hc'
theorem kept_turn {w W Y : World} {F : List Nat} {row : Option Nat} {D : Nat} (h : Kept F w W) (hD : w.heap.size ≤ D) (hg : W.grownBy Y row) (hrow : ∀ r, row = some r → D ≤ r ∧ ∃ o : Obj, W.heap[r]? = some o ∧ o.isCells = false) : Kept F w Y :=
  h.then_ (G := row.toList) (Kept.of_grown hg (fun k hk => by simp [hk])) (fun i hi => .inr (by have := (hrow i (by simpa using hi)).1; omega))

theorem putI_own {p pd pf b B D : Nat} {s : PgS} {F : List Nat} {v : ByteArray} {w : World} (hy : Yg s) (hb : b < D) (hD : w.heap.size ≤ D) : OwnFrom D (PutI p pd pf b s F v B D w) := by
  rintro pre W Y row ⟨he, F1, mv, ⟨hp, hF⟩, ⟨hm, hr, hmg⟩, ⟨b0, b1, b2, b4⟩, hk, hs⟩ hg hrow
  have hrow2 : ∀ r, row = some r → ∃ o : Obj, W.heap[r]? = some o ∧ o.isCells = false := fun r e => (hrow r e).2
  exact ⟨he, F1, mv, ⟨pg_turn hp (puL_ok hy v pre).yg.cap hb hg hrow, hF⟩, ⟨boxed_turn hm hg hrow2, row_turn hr hg hrow2, hmg⟩, ⟨boxed_turn b0 hg hrow2, boxed_turn b1 hg hrow2, boxed_turn b2 hg hrow2, boxed_turn b4 hg hrow2⟩, kept_turn hk hD hg hrow, Nat.le_trans hs hg.size⟩
theorem putX_own {p pd pf b B D : Nat} {s : PgS} {F : List Nat} {v : ByteArray} {w : World} (c : Code) (hy : Yg s) (hb : b < D) (hD : w.heap.size ≤ D) : OwnFrom D (PutX p pd pf b s F v B D w c) := by
  rintro pre W Y row ⟨he, F1, ⟨hp, hF⟩, ⟨b1, b2⟩, hk, hs⟩ hg hrow
  have hrow2 : ∀ r, row = some r → ∃ o : Obj, W.heap[r]? = some o ∧ o.isCells = false := fun r e => (hrow r e).2
  have hok := puL_ok hy v pre
  exact ⟨he, F1, ⟨pg_turn hp (drAll_yg hok.yg _ hok.nodup hok.fate).cap hb hg hrow, hF⟩, ⟨boxed_turn b1 hg hrow2, boxed_turn b2 hg hrow2⟩, kept_turn hk hD hg hrow, Nat.le_trans hs hg.size⟩
theorem keepsFrom_of {W W' : World} {G : List Nat} {D : Nat} (hk : Kept G W W') (hG : ∀ x ∈ G, D ≤ x → x < W.heap.size → ∃ o : Obj, W.heap[x]? = some o ∧ o.isCells = true) : KeepsFrom D W W' :=
  ⟨hk.size, fun k o hD ho hc => (hk.block k (Array.getElem?_eq_some_iff.1 ho).1 (fun hm => by
    obtain ⟨o', h1, h2⟩ := hG k hm hD (Array.getElem?_eq_some_iff.1 ho).1
    rw [ho] at h1; cases h1; rw [hc] at h2; cases h2)).trans ho⟩
end Go.Proofs.YtlignamakiiokaaGreatDoor

namespace Go.Proofs.YtlignamakiiokaaGreatDoor
open Go.RowKit Go.Sort Go.Lib Go.Shelf

attribute [local go_sem] Oper.semAt_some

theorem boxO_below {W W' : World} {B : Nat} {t : TypeId} {v : Value} (h : Boxed W B t v) (hb : Below W.heap.size W W') : Boxed W' B t v := (hb.block B h.lt).trans h
theorem boxO_kept {G : List Nat} {W W' : World} {B : Nat} {t : TypeId} {v : Value} (h : Boxed W B t v) (hk : Kept G W W') (hB : B ∉ G) : Boxed W' B t v := (hk.block B h.lt hB).trans h

theorem reads_of_row {w : World} {F : List Nat} {base : Nat} {v : Value} {L : List Int} (h : w.ownsRow base 3 1 v L.length (L.map (Value.int .i64))) (hF : ∀ g, v.ownBlock = some g → g ∉ F) : ReadsO F w v (L.map (.int .i64)) := by
  obtain ⟨A, c, rfl⟩ := rform3 h
  refine ⟨A, c, by simp, fun hl => ?_⟩
  rcases h.2 with ⟨_, h0⟩ | ⟨g, cap, cur, hv, hbg, hg, hl1, hl2, hl3, hl4⟩
  · simp at hl; omega
  · cases hv
    refine ⟨g, 0, rfl, (Array.getElem?_eq_some_iff.1 hg).1, hF g rfl, fun j u hj => ?_⟩
    have hjl : j < L.length := by have := (List.getElem?_eq_some_iff.1 hj).1; simpa using this
    rw [← hl4, List.getElem?_take, if_pos (by omega)] at hj
    show w.cell? ⟨g, 0 + j, none⟩ = some u
    rw [Nat.zero_add, Has.cell (show Has w g _ cur from hg) j, ← hj]
    simp

section
variable {p pd pf b : Nat} {s : PgS} {F : List Nat} {w : World}

set_option maxRecDepth 1000000 in
set_option maxHeartbeats 8000000 in
theorem oput_in (v : ByteArray) (h0 : v.size ≠ 0) (h1 : v.size ≤ 2000) (hy : Yg s) (hc : s.n < 900000) (h : PgIs p pd pf b s F w) :
    Calls Tryz.prog 16 #[.pointer (some ⟨p, 0, none⟩), .string v] w fun e w' => e = .returned (.tuple #[.int .i64 (puI s v), .int .i64 (puE s v)]) ∧ ∃ F', PgIs p pd pf b (puT s v) F' w' ∧ Goes F w F' w' := by
  refine (callsIn_wide (n := 3)).1 ?_
  have hbF : b ∈ F := by obtain ⟨v, FD, FF, _, _, _, _, _, _, _, _, _, rfl⟩ := h; simp [pgOwn]
  have HL := Lib.hid (And.intro h (And.intro hy (And.intro hc hbF)))
  have hcut := fun w1 => cut_any v (by omega) w1
  have hvl : v.toList.isEmpty = false := by
    rw [ByteArray.toList_eq]
    have hh : v.data.toList.length ≠ 0 := by simpa using h0
    cases hl : v.data.toList with
    | nil => rw [hl] at hh; simp at hh
    | cons _ _ => rfl
  have hvl2 : ¬ v.toList = [] := fun e => by rw [e] at hvl; simp at hvl
  have g2 : decide ((2000 : Int) < (v.size : Int)) = false := by simp; omega
  clear h hy hc hbF
  refine callsIn_of_wp_marks Tryz.func16 rfl trivial ?_ rfl
  simp only [Tryz.ntmps16, List.size_toArray, List.length_cons, List.length_nil, Nat.reduceAdd, Nat.reduceSub, Array.replicate_succ, Array.replicate_zero, List.push_toArray, List.append_toArray, List.nil_append, List.cons_append]
  gi_wp2
  refine ⟨trivial, ?_⟩
  refine (callsIn_wide.2 (hcut _)).mono ?_
  rintro e w2 ⟨v2, rfl, hr2, hb2⟩
  simp only [World.size_alloc, Nat.add_assoc, Nat.reduceAdd] at hr2 hb2
  obtain ⟨W5, hW5⟩ : ∃ W5, ((((w.alloc (Obj.cells #[Value.pointer (some ⟨p, 0, none⟩)] 31)).alloc (Obj.cells #[Value.int IntKind.i64 0] 3)).alloc (Obj.cells #[Value.int IntKind.i64 0] 32)).alloc (Obj.cells #[Value.slice none 0 0] 69)).alloc (Obj.cells #[Value.int IntKind.i64 0] 3) = W5 := ⟨_, rfl⟩
  rw [hW5] at hb2
  have x0 : Boxed W5 w.heap.size 31 (.pointer (some ⟨p, 0, none⟩)) := by rw [← hW5]; exact ((((Boxed.new w _ _).alloc _).alloc _).alloc _).alloc _
  have x1 : Boxed W5 (w.heap.size + 1) 3 (.int .i64 0) := by rw [← hW5]; have := (((Boxed.new (w.alloc (Obj.cells #[Value.pointer (some ⟨p, 0, none⟩)] 31)) 3 (.int .i64 0)).alloc (Obj.cells #[Value.int IntKind.i64 0] 32)).alloc (Obj.cells #[Value.slice none 0 0] 69)).alloc (Obj.cells #[Value.int IntKind.i64 0] 3); simpa using this
  have x2 : Boxed W5 (w.heap.size + 2) 32 (.int .i64 0) := by rw [← hW5]; have := ((Boxed.new ((w.alloc (Obj.cells #[Value.pointer (some ⟨p, 0, none⟩)] 31)).alloc (Obj.cells #[Value.int IntKind.i64 0] 3)) 32 (.int .i64 0)).alloc (Obj.cells #[Value.slice none 0 0] 69)).alloc (Obj.cells #[Value.int IntKind.i64 0] 3); simpa using this
  have x3 : Boxed W5 (w.heap.size + 3) 69 (.slice none 0 0) := by rw [← hW5]; have := (Boxed.new (((w.alloc (Obj.cells #[Value.pointer (some ⟨p, 0, none⟩)] 31)).alloc (Obj.cells #[Value.int IntKind.i64 0] 3)).alloc (Obj.cells #[Value.int IntKind.i64 0] 32)) 69 (.slice none 0 0)).alloc (Obj.cells #[Value.int IntKind.i64 0] 3); simpa using this
  have x4 : Boxed W5 (w.heap.size + 4) 3 (.int .i64 0) := by rw [← hW5]; have := Boxed.new ((((w.alloc (Obj.cells #[Value.pointer (some ⟨p, 0, none⟩)] 31)).alloc (Obj.cells #[Value.int IntKind.i64 0] 3)).alloc (Obj.cells #[Value.int IntKind.i64 0] 32)).alloc (Obj.cells #[Value.slice none 0 0] 69)) 3 (.int .i64 0); simpa using this
  have hs5 : W5.heap.size = w.heap.size + 5 := by rw [← hW5]; simp
  have hB5 : Below w.heap.size w W5 := by
    rw [← hW5]
    exact (((((Below.refl _ w).alloc (Nat.le_refl _) _).alloc (by simp) _).alloc (by simp; omega) _).alloc (by simp; omega) _).alloc (by simp; omega) _
  clear hW5
  rw [← hs5] at hb2
  obtain ⟨K, hK⟩ : ∃ K, nP v.size = K := ⟨_, rfl⟩
  have hK0 : 0 < K := by unfold nP at hK; omega
  have hK1 : K ≤ 9 := by unfold nP at hK; omega
  unfold TxRow at hr2
  rw [cutL_length, hK] at hr2
  obtain ⟨g, cap, cur, hv2, hgb, hgc, hgn, -, hgs, hgt⟩ : ∃ g cap cur, v2 = .slice (some ⟨g, 0, none⟩) K cap ∧ w.heap.size + 5 ≤ g ∧ w2.heap[g]? = some (.cells cur 9 (0, 0)) ∧ K ≤ cap ∧ cap ≤ maxLen ∧ cur.size = cap * 1 ∧ cur.toList.take (K * 1) = (cutL v).map Value.string := by
    rcases hr2.2 with ⟨_, h⟩ | h
    · omega
    · exact h
  have htx : TextsIn g 0 K (pce v) w2 := fun i hi => by
    rw [Nat.zero_add, Has.cell (show Has w2 g _ cur from hgc) i]
    have e1 : (cur.toList.take (K * 1))[i]? = some (Value.string (pce v i)) := by
      rw [hgt]
      unfold cutL
      rw [hK, List.map_map, List.getElem?_map, List.getElem?_range hi]
      rfl
    rw [List.getElem?_take, if_pos (by omega)] at e1
    simpa using e1
  have hgl : g < w2.heap.size := (Array.getElem?_eq_some_iff.1 hgc).1
  subst hv2
  have y0 := boxO_below x0 hb2
  have y1 := boxO_below x1 hb2
  have y2 := boxO_below x2 hb2
  have y3 := boxO_below x3 hb2
  have y4 := boxO_below x4 hb2
  have hB2 : Below w.heap.size w w2 := hB5.trans (hb2.mono (by omega))
  have HX := Lib.hid (And.intro y0 (And.intro y1 (And.intro y2 (And.intro y3 (And.intro y4 (And.intro hB2 (And.intro htx (And.intro hgl (And.intro hgb hK)))))))))
  have hs2 := hb2.size
  clear x0 x1 x2 x3 x4 hB5 hb2 hr2 hgc hgn hgs hgt htx hgl y0 y1 y2 y3 y4 hB2 hcut hvl hvl2 g2
  gi_wp2
  refine ⟨trivial, ?_⟩
  refine (back_in Fence.wide _ trivial rfl _ _ _ _).mono ?_
  rintro e w3 ⟨rfl, rfl⟩
  gi_wp2
  obtain ⟨y0, y1, y2, y3, y4, hB2, htx, hgl, hgb, hK⟩ := HX.out
  have zs := Boxed.new w2 56 (.slice (some ⟨g, 0, none⟩) K cap)
  have hba := alloc_below (w := w2) (.cells #[.slice (some ⟨g, 0, none⟩) K cap] 56)
  have z0 := boxO_below y0 hba
  have z1 := boxO_below y1 hba
  have z2 := boxO_below y2 hba
  have z3 := boxO_below y3 hba
  have z4 := boxO_below y4 hba
  have hB3 := hB2.trans (hba.mono hB2.size)
  have htx3 : TextsIn g 0 K (pce v) (w2.alloc (.cells #[.slice (some ⟨g, 0, none⟩) K cap] 56)) := htx.kept (hba.block g hgl)
  have hsz3 : (w2.alloc (.cells #[.slice (some ⟨g, 0, none⟩) K cap] 56)).heap.size = w2.heap.size + 1 := by simp
  have hbs2 : w.heap.size + 5 ≤ w2.heap.size := by omega
  generalize w2.alloc (.cells #[.slice (some ⟨g, 0, none⟩) K cap] 56) = W3 at *
  obtain ⟨Bs, hBs⟩ : ∃ Bs, w2.heap.size = Bs := ⟨_, rfl⟩
  rw [hBs] at zs hgl hsz3 hbs2 ⊢
  obtain ⟨B, hB⟩ : ∃ B, w.heap.size = B := ⟨_, rfl⟩
  obtain ⟨hp, hy, hc, hbF⟩ := HL.out
  have hFB : ∀ x ∈ F, x < B := fun x hx => by rw [← hB]; exact hp.lt x hx
  simp only [Nat.add_assoc, Nat.reduceAdd]
  rw [hB] at z0 z1 z2 z3 z4 hB3 hbs2 hgb ⊢
  have hbB := hFB b hbF
  have hkF : Kept F w W3 := Kept.of_below (by rw [hB]; exact hB3)
  have hI0 : PutI p pd pf b s F v B W3.heap.size w [] W3 := ⟨rfl, F, .slice none 0 0, ⟨hp.below (by rw [hB]; exact hB3), fun x hx => .inl hx⟩, ⟨z3, World.ownsRow_nil _ _ _ _, fun g hg => by simp [Value.ownBlock] at hg⟩, ⟨z0, z1, z2, z4⟩, hkF, Nat.le_refl _⟩
  have HP := Lib.hid (And.intro hFB (And.intro hbB (And.intro hbs2 (And.intro hgb (And.intro hgl (And.intro hB (And.intro hK hsz3)))))))
  have hOI := putI_own (p := p) (pd := pd) (pf := pf) (b := b) (B := B) (D := W3.heap.size) (s := s) (F := F) (v := v) (w := w) hy (by omega) (by omega)
  have hOX := fun c => putX_own (p := p) (pd := pd) (pf := pf) (b := b) (B := B) (D := W3.heap.size) (s := s) (F := F) (v := v) (w := w) c hy (by omega) (by omega)
  clear y0 y1 y2 y3 y4 hB2 htx hba z0 z1 z2 z3 z4 hB3 hkF hp HX hs2 hs5
  refine wpIn_rangeFunc_ownG rfl (by omega) (gf := 116) (lb := #[.pointer (some ⟨Bs, 0, none⟩)]) rfl trivial (enters_of Tryz.func116 (by kernel_rfl) rfl)
    (back_stops Fence.wide (3 - 1) trivial rfl (by omega) Bs g 0 K cap (pce v) (by omega) W3 zs (by omega) htx3) bkKp_t (bkKp_b (by omega) (by omega)) (Below.refl _ _) (fun _ => rfl)
    (PutI p pd pf b s F v B W3.heap.size w) (PutX p pd pf b s F v B W3.heap.size w) hOI hOX hI0
    (fun k => { tmps := #[.pointer (some ⟨p, 0, none⟩), .string v, .pointer (some ⟨B, 0, none⟩), undef, .pointer (some ⟨B + 1, 0, none⟩), .pointer (some ⟨B + 2, 0, none⟩), .pointer (some ⟨B + 3, 0, none⟩), .pointer (some ⟨B + 4, 0, none⟩), undef, .string (pce v k), undef, undef, .string v, .bool false, .bool false, .string v, .int .i64 v.size, .bool false, .bool false, .string v, .slice (some ⟨g, 0, none⟩) K cap, .func (.func 116) #[] #[.pointer (some ⟨Bs, 0, none⟩)], .int .i64 k, .string (pce v k), undef, undef, undef, undef, undef, undef, undef, undef, undef, undef, undef, undef, undef, undef, undef, undef, undef, undef, undef, undef], defers := [] }) ?assign ?body ?done ?stop
  case assign =>
    intro l x W K hK
    gi_wp2
    exact hK
  case body =>
    rintro y pre k W ⟨he, F1, mv, ⟨hpg, hF1⟩, ⟨hm, hr, hmg⟩, ⟨b0, b1, b2, b4⟩, hk, hs⟩ hlt
    obtain ⟨hFB, hbB, hbs2, hgb, hgl, hB, hK, hsz3⟩ := HP.out
    have hok := puL_ok hy v pre
    have hsn := puL_snoc v s pre k
    have hF1B : ∀ x ∈ F1, x < B ∨ W3.heap.size ≤ x := fun x hx => (hF1 x hx).imp (hFB x) id
    have hcl : ∀ x ∈ F1, W3.heap.size ≤ x → ∃ o : Obj, W.heap[x]? = some o ∧ o.isCells = true := fun x hx hD => by
      rcases hpg.allCells hok.yg.cap x hx with rfl | h
      · omega
      · exact h
    have hlen : pre.length < 10 := by omega
    generalize hstt : puL v s pre = st at *
    obtain ⟨e0, nx, made, s1⟩ := st
    simp only at he hpg hr hmg b4 hcl ⊢
    subst he
    have hyg : Yg s1 := hok.yg
    have hnx : IsInt nx := by have h5 : 0 ≤ nx ∧ nx ≤ 60 := hok.next; unfold IsInt; omega
    have hml : made.length ≤ 10 := by have h5 : made.length ≤ pre.length := hok.len; omega
    have hn1 : s1.n < 1000000 := by have h5 : s1.n = s.n + made.length := hok.n; omega
    have hmk := gmake_y 4 nx (pce v k) hyg (by unfold IsInt; omega) hnx (by have := pce_small v k; omega) hn1 hpg
    unfold puStep at hsn
    simp only [ne_eq, not_true, if_false] at hsn
    obtain ⟨t, ht⟩ : ∃ t, pce v k = t := ⟨_, rfl⟩
    rw [ht] at hmk hsn ⊢
    by_cases hm0 : mkE s1 4 nx t = 0
    · rw [if_pos hm0] at hsn
      have e2 : mkI s1 4 nx t = cand s1 := by unfold mkI; rw [if_pos hm0]
      have e3 : mkT s1 4 nx t = mkS s1 4 nx t := by unfold mkT; rw [if_pos hm0]
      rw [hm0, e2, e3] at hmk
      obtain ⟨id, hid⟩ : ∃ id, cand s1 = id := ⟨_, rfl⟩
      rw [hid] at hmk hsn
      obtain ⟨s2, hs2⟩ : ∃ s2, mkS s1 4 nx t = s2 := ⟨_, rfl⟩
      rw [hs2] at hmk hsn
      obtain ⟨n, hn⟩ : ∃ n, made.length = n := ⟨_, rfl⟩
      have hn10 : n ≤ 1000000 := by omega
      have c0 := b0.cell
      have c3 := hm.cell
      have c4 := b4.cell
      have HB := Lib.hid (And.intro b0 (And.intro b1 (And.intro b2 (And.intro b4 (And.intro hm (And.intro hr (And.intro hmg (And.intro hk (And.intro hs (And.intro hF1 (And.intro hF1B hcl)))))))))))
      have HN := Lib.hid (And.intro hsn (And.intro hpg hn))
      clear b0 b1 b2 b4 hm hr hmg hk hs hF1 hF1B hcl hok hstt hyg hnx hml hn1 hsn hm0 e2 e3 hid hs2 hpg ht hFB hbB hbs2 hgb hgl hB hK hsz3 hOI hOX hI0 htx3 hy hn hc hbF
      gi_wp2_with first
        | (refine ⟨trivial, ?_⟩; gi_at_call 20; refine (CallsIn.inRound y (callsIn_wide.2 hmk)).mono ?_; rintro e w1 ⟨rfl, F2, hp2, hg2⟩
           have hH := HB.out
           have hPP := HP.out
           have hnF : ∀ i, B ≤ i → i < W3.heap.size → i ∉ F1 := fun i h1 h2 h3 => by have := hH.2.2.2.2.2.2.2.2.2.2.1 i h3; omega
           have d3 := (boxO_kept hH.2.2.2.2.1 hg2.1 (hnF _ (by omega) (by omega)))
           have hr1 := row_kept hH.2.2.2.2.2.1 hg2.1 (fun g hg => (hH.2.2.2.2.2.2.1 g hg).2)
           have c3' := d3.cell
           have hs1 := Nat.le_trans hH.2.2.2.2.2.2.2.2.1 hg2.1.size
           have H1 := Lib.hid (And.intro hp2 (And.intro hg2 (And.intro hnF (And.intro d3 (And.intro hr1 hs1)))))
           clear hp2 hg2 hnF d3 hH hPP hs1)
        | (gi_at_builtin; refine appendIn_fresh rfl _ _ 69 3 (.int .i64 0) 8 Tryz.underlying69 Tryz.infoIntO rfl (by decide) rfl w1 mv _ _ rfl hr1 (.int .i64 id) rfl rfl (by rw [HN.out.2.2]; exact hn10) ?_
           intro v' w2 hr2 hfr2 hgr2
           obtain ⟨A2, cc2, hv2⟩ := rform3 hr2
           have hH := HB.out
           have hPP := HP.out
           have hK2 : Kept mv.ownBlock.toList w1 w2 := Kept.of_grown hgr2 (fun k hk => by simp [hk])
           have hnb : ∀ i, i < W3.heap.size → i ∉ mv.ownBlock.toList := fun i h1 h2 => by have := (hH.2.2.2.2.2.2.1 i (by simpa using h2)).1; omega
           have q3 := boxO_kept H1.out.2.2.2.1 hK2 (hnb _ (by omega))
           have q4 := boxO_kept (boxO_kept hH.2.2.2.1 H1.out.2.1.1 (H1.out.2.2.1 _ (by omega) (by omega))) hK2 (hnb _ (by omega))
           have j3 := q3.cell
           have i3 := q3.frozen
           have j4 := q4.cell
           have i4 := q4.frozen
           have H2 := Lib.hid (And.intro hr2 (And.intro hfr2 (And.intro hK2 (And.intro hnb (And.intro q3 q4)))))
           clear hr2 hfr2 hgr2 hK2 hnb q3 q4 hH hPP
           subst hv2)
      obtain ⟨b0, b1, b2, b4, hm, hr, hmg, hk, hs, hF1, hF1B, hcl⟩ := HB.out
      obtain ⟨hp2, hg2, hnF, -, hr1, hs1⟩ := H1.out
      obtain ⟨hr2, hfr2, hK2, hnb, q3, q4⟩ := H2.out
      obtain ⟨hFB, hbB, hbs2, hgb, hgl, hB, hK, hsz3⟩ := HP.out
      obtain ⟨hsn, hpg, hn⟩ := HN.out
      obtain ⟨v', hv'⟩ : ∃ v', Value.slice A2 (made.length + 1) cc2 = v' := ⟨_, rfl⟩
      rw [hv'] at hr2 hfr2 ⊢
      have hmlt : ∀ x, x ∈ mv.ownBlock.toList → W3.heap.size ≤ x ∧ x ∉ F1 ∧ x < W.heap.size := fun x hx => by
        have hx' : mv.ownBlock = some x := by simpa using hx
        exact ⟨(hmg x hx').1, (hmg x hx').2, (World.ownsRow.lt hr x hx').2⟩
      have hK3 : Kept (mv.ownBlock.toList ++ [B + 3, B + 4]) w1 ((w2.setCell ⟨B + 3, 0, none⟩ v').setCell ⟨B + 4, 0, none⟩ (.int .i64 id)) :=
        ((hK2.mono (fun x hx => .inl (by simp; simp at hx; exact .inl hx))).setCell (p := ⟨B + 3, 0, none⟩) (.inl (by simp)) _).setCell (p := ⟨B + 4, 0, none⟩) (.inl (by simp)) _
      have hK4 : Kept [B + 3, B + 4] w2 ((w2.setCell ⟨B + 3, 0, none⟩ v').setCell ⟨B + 4, 0, none⟩ (.int .i64 id)) :=
        ((Kept.refl _ _).setCell (p := ⟨B + 3, 0, none⟩) (.inl (by simp)) _).setCell (p := ⟨B + 4, 0, none⟩) (.inl (by simp)) _
      have hKW : Kept (F1 ++ (mv.ownBlock.toList ++ [B + 3, B + 4])) W ((w2.setCell ⟨B + 3, 0, none⟩ v').setCell ⟨B + 4, 0, none⟩ (.int .i64 id)) :=
        (hg2.1.mono (G := F1 ++ (mv.ownBlock.toList ++ [B + 3, B + 4])) (fun x hx => .inl (List.mem_append_left _ hx))).then_ hK3 (fun x hx => .inl (List.mem_append_right _ hx))
      have hGc : ∀ x, x ∈ F1 ++ (mv.ownBlock.toList ++ [B + 3, B + 4]) → x ∈ F1 ∨ x ∈ mv.ownBlock.toList ∨ x = B + 3 ∨ x = B + 4 := fun x hx => by simpa using hx
      have hnotG : ∀ x, B ≤ x → x < W3.heap.size → x ≠ B + 3 → x ≠ B + 4 → x ∉ F1 ++ (mv.ownBlock.toList ++ [B + 3, B + 4]) := fun x h1 h2 h3 h4 hx => by
        rcases hGc x hx with h | h | h | h
        · exact hnF x h1 h2 h
        · have := (hmlt x h).1; omega
        · exact h3 h
        · exact h4 h
      have hv3 : ∀ x, v'.ownBlock = some x → W3.heap.size ≤ x ∧ x ∉ F2 := fun x hx => by
        rcases hfr2 with ⟨h1, h2⟩ | ⟨k2, h1, h2⟩
        · have hx' : mv.ownBlock = some x := by rw [← h1]; exact hx
          obtain ⟨m1, m2, m3⟩ := hmlt x (by simp [hx'])
          refine ⟨m1, fun hx2 => ?_⟩
          rcases hg2.2 x hx2 with h | h
          · exact m2 h
          · omega
        · rw [h1] at hx
          cases hx
          exact ⟨by omega, fun hx2 => by have := hp2.lt _ hx2; omega⟩
      refine ⟨keepsFrom_of hKW (fun x hx hD hxl => ?_), ⟨hKW.block Bs (by omega) (hnotG Bs (by omega) (by omega) (by omega) (by omega)), hKW.block g (by omega) (hnotG g (by omega) (by omega) (by omega) (by omega))⟩, ?_⟩
      · rcases hGc x hx with h | h | h | h
        · exact hcl x h hD
        · exact cells_row hr (by simpa using h)
        · omega
        · omega
      · unfold PutI
        rw [hsn]
        refine ⟨rfl, F2, v', ⟨hp2.kept hK3 (fun x hx hG => ?_), fun x hx => ?_⟩, ⟨?_, ?_, hv3⟩, ⟨boxO_kept b0 hKW (hnotG _ (by omega) (by omega) (by omega) (by omega)), boxO_kept b1 hKW (hnotG _ (by omega) (by omega) (by omega) (by omega)), boxO_kept b2 hKW (hnotG _ (by omega) (by omega) (by omega) (by omega)), ?_⟩, ?_, Nat.le_trans hs hKW.size⟩
        · have hx2 : x ∈ mv.ownBlock.toList ∨ x = B + 3 ∨ x = B + 4 := by simpa using hG
          rcases hg2.2 x hx with h | h
          · rcases hx2 with h2 | h2 | h2
            · exact (hmlt x h2).2.1 h
            · exact hnF x (by omega) (by omega) h
            · exact hnF x (by omega) (by omega) h
          · rcases hx2 with h2 | h2 | h2
            · have := (hmlt x h2).2.2; omega
            · omega
            · omega
        · rcases hg2.2 x hx with h | h
          · exact hF1 x h
          · exact .inr (by omega)
        · exact (q3.set v').kept (grownBy_setCell' _ (B + 4) _) (by simp)
        · have hrr := row_kept hr2 hK4 (fun x hx hG => by
            have h1 := (hv3 x hx).1
            have h2 : x = B + 3 ∨ x = B + 4 := by simpa using hG
            omega)
          simpa using hrr
        · exact (q4.kept (grownBy_setCell' w2 (B + 3) v') (by simp)).set (.int .i64 id)
        · refine hk.then_ hKW (fun x hx => ?_)
          rcases hGc x hx with h | h | h | h
          · rcases hF1 x h with h2 | h2
            · exact .inl h2
            · exact .inr (by omega)
          · have := (hmlt x h).1; exact .inr (by omega)
          · exact .inr (by omega)
          · exact .inr (by omega)
    · rw [if_neg hm0] at hsn
      have e2 : mkI s1 4 nx t = 0 := by unfold mkI; rw [if_neg hm0]
      have e3 : mkT s1 4 nx t = s1 := by unfold mkT; rw [if_neg hm0]
      rw [e2, e3] at hmk
      obtain ⟨r, hrr⟩ : ∃ r, mkE s1 4 nx t = r := ⟨_, rfl⟩
      rw [hrr] at hmk hsn hm0
      have gr : (r != 0) = true := by simpa using hm0
      have c0 := b0.cell
      have c3 := hm.cell
      have c4 := b4.cell
      have hda := fun (F2 : List Nat) (w1 : World) (hp2 : PgIs p pd pf b s1 F2 w1) (hro : ReadsO F2 w1 mv (made.map (.int .i64))) => odropAll_any (p := p) (pd := pd) (pf := pf) (b := b) hyg (show made.Nodup from hok.nodup) hok.fate (show s1.n + made.length < 1000000 by have h6 : s1.n = s.n + made.length := hok.n; omega) hro hp2
      have HB := Lib.hid (And.intro b0 (And.intro b1 (And.intro b2 (And.intro b4 (And.intro hm (And.intro hr (And.intro hmg (And.intro hk (And.intro hs (And.intro hF1 (And.intro hF1B hcl)))))))))))
      have HN := Lib.hid (And.intro hsn (And.intro hpg hm0))
      clear b0 b1 b2 b4 hm hr hmg hk hs hF1 hF1B hcl hok hstt hyg hnx hml hn1 hsn hm0 e2 e3 hrr hpg ht hFB hbB hbs2 hgb hgl hB hK hsz3 hOI hOX hI0 htx3 hy hc hbF
      gi_wp2_with first
        | (refine ⟨trivial, ?_⟩; gi_at_call 20; refine (CallsIn.inRound y (callsIn_wide.2 hmk)).mono ?_; rintro e w1 ⟨rfl, F2, hp2, hg2⟩
           have hH := HB.out
           have hPP := HP.out
           have hnF : ∀ i, B ≤ i → i < W3.heap.size → i ∉ F1 := fun i h1 h2 h3 => by have := hH.2.2.2.2.2.2.2.2.2.2.1 i h3; omega
           have d0 := (boxO_kept hH.1 hg2.1 (hnF _ (by omega) (by omega)))
           have d3 := (boxO_kept hH.2.2.2.2.1 hg2.1 (hnF _ (by omega) (by omega)))
           have hr1 := row_kept hH.2.2.2.2.2.1 hg2.1 (fun g hg => (hH.2.2.2.2.2.2.1 g hg).2)
           have hda1 := hda F2 w1 hp2 (reads_of_row hr1 (fun x hx h2 => by
             have h3 := hH.2.2.2.2.2.2.1 x hx
             have h4 := (World.ownsRow.lt hH.2.2.2.2.2.1 x hx).2
             rcases hg2.2 x h2 with h | h
             · exact h3.2 h
             · omega))
           have c0' := d0.cell
           have c3' := d3.cell
           have hs1 := Nat.le_trans hH.2.2.2.2.2.2.2.2.1 hg2.1.size
           have H1 := Lib.hid (And.intro hp2 (And.intro hg2 (And.intro hnF (And.intro d3 (And.intro hr1 hs1)))))
           clear hp2 hg2 hnF d0 d3 hr1 hH hPP hs1)
        | (refine ⟨trivial, ?_⟩; gi_at_call 47; refine (CallsIn.inRound y (callsIn_wide.2 hda1)).mono ?_; rintro e w2 ⟨rfl, F3, hp3, hg3⟩
           have hH := HB.out
           have hPP := HP.out
           have hg13 := H1.out.2.1.trans hg3
           have q1 := boxO_kept hH.2.1 hg13.1 (H1.out.2.2.1 _ (by omega) (by omega))
           have q2 := boxO_kept hH.2.2.1 hg13.1 (H1.out.2.2.1 _ (by omega) (by omega))
           have i1 := q1.frozen
           have i2 := q2.frozen
           have j1 := q1.cell
           have j2 := q2.cell
           have H2 := Lib.hid (And.intro hp3 (And.intro hg13 (And.intro q1 q2)))
           clear hp3 hg3 hg13 q1 q2 hH hPP)
      obtain ⟨b0, b1, b2, b4, hm, hr, hmg, hk, hs, hF1, hF1B, hcl⟩ := HB.out
      obtain ⟨hp2, hg2, hnF, -, hr1, hs1⟩ := H1.out
      obtain ⟨hp3, hg3, q1, q2⟩ := H2.out
      obtain ⟨hFB, hbB, hbs2, hgb, hgl, hB, hK, hsz3⟩ := HP.out
      obtain ⟨hsn, hpg, hm0⟩ := HN.out
      have hK4 : Kept [B + 1, B + 2] w2 ((w2.setCell ⟨B + 1, 0, none⟩ (.int .i64 0)).setCell ⟨B + 2, 0, none⟩ (.int .i64 r)) :=
        ((Kept.refl _ _).setCell (p := ⟨B + 1, 0, none⟩) (.inl (by simp)) _).setCell (p := ⟨B + 2, 0, none⟩) (.inl (by simp)) _
      have hKW : Kept (F1 ++ [B + 1, B + 2]) W ((w2.setCell ⟨B + 1, 0, none⟩ (.int .i64 0)).setCell ⟨B + 2, 0, none⟩ (.int .i64 r)) :=
        (hg3.1.mono (G := F1 ++ [B + 1, B + 2]) (fun x hx => .inl (List.mem_append_left _ hx))).then_ hK4 (fun x hx => .inl (List.mem_append_right _ hx))
      have hGc : ∀ x, x ∈ F1 ++ [B + 1, B + 2] → x ∈ F1 ∨ x = B + 1 ∨ x = B + 2 := fun x hx => by simpa using hx
      refine ⟨keepsFrom_of hKW (fun x hx hD hxl => ?_), ?_⟩
      · rcases hGc x hx with h | h | h
        · exact hcl x h hD
        · omega
        · omega
      · unfold PutX
        rw [hsn]
        refine ⟨⟨rfl, hm0⟩, F3, ⟨hp3.kept hK4 (fun x hx hG => ?_), fun x hx => ?_⟩, ⟨(q1.set _).kept (grownBy_setCell' _ (B + 2) _) (by simp), (q2.kept (grownBy_setCell' w2 (B + 1) _) (by simp)).set _⟩, ?_, Nat.le_trans hs hKW.size⟩
        · have hx2 : x = B + 1 ∨ x = B + 2 := by simpa using hG
          rcases hg3.2 x hx with h | h
          · exact hnF x (by omega) (by omega) h
          · omega
        · rcases hg3.2 x hx with h | h
          · exact hF1 x h
          · exact .inr (by omega)
        · refine hk.then_ hKW (fun x hx => ?_)
          rcases hGc x hx with h | h | h
          · rcases hF1 x h with h2 | h2
            · exact .inl h2
            · exact .inr (by omega)
          · exact .inr (by omega)
          · exact .inr (by omega)
  case done =>
    rintro D ys W hD rfl ⟨he, F1, mv, ⟨hpg, hF1⟩, ⟨hm, hr, hmg⟩, ⟨b0, b1, b2, b4⟩, hk, hs⟩ hdef
    obtain ⟨hFB, hbB, hbs2, hgb, hgl, hB, hK, hsz3⟩ := HP.out
    have hok := puL_ok hy v (backL K K)
    have e1 : puE s v = 0 := by unfold puE; rw [if_neg (by omega), hK]; exact he
    have e2 : puI s v = (puL v s (backL K K)).next := by unfold puI; rw [if_pos e1, hK]
    have e3 : puT s v = (puL v s (backL K K)).s := by unfold puT; rw [if_neg (by omega), if_pos e1, hK]
    have hcap := hok.yg.cap
    have HE := Lib.hid (And.intro e1 (And.intro e2 (And.intro e3 (And.intro hcap (And.intro hpg hk)))))
    have c1 := b1.cell
    have c2 := b2.cell
    have c4 := b4.cell
    have f1 := b1.frozen
    have f2 := b2.frozen
    generalize (puL v s (backL K K)).next = nx at *
    have HB := Lib.hid (And.intro b1 (And.intro b2 hF1))
    clear e1 e2 e3 hcap hpg hk he hm hr hmg b0 b4 b1 b2 hF1 hok
    gi_wp2
    obtain ⟨e1, e2, e3, hcap, hpg, hk⟩ := HE.out
    obtain ⟨b1, b2, hF1⟩ := HB.out
    have hx1 : ∀ x ∈ F1, x ∉ [B + 1, B + 2] := fun x hx hG => by
      have hx2 : x = B + 1 ∨ x = B + 2 := by simpa using hG
      rcases hF1 x hx with h | h
      · have := hFB x h; omega
      · omega
    have hKX : Kept [B + 1, B + 2] W ((W.setCell ⟨B + 1, 0, none⟩ (.int .i64 nx)).setCell ⟨B + 2, 0, none⟩ (.int .i64 0)) :=
      ((Kept.refl _ _).setCell (p := ⟨B + 1, 0, none⟩) (.inl (by simp)) _).setCell (p := ⟨B + 2, 0, none⟩) (.inl (by simp)) _
    have hpX := hpg.kept hKX hx1
    have hK2 : ((W.setCell ⟨B + 1, 0, none⟩ (.int .i64 nx)).setCell ⟨B + 2, 0, none⟩ (.int .i64 0)).heap[D]? = some (.deferred (some [])) :=
      (hKX.block D (Array.getElem?_eq_some_iff.1 hdef).1 (by simp; omega)).trans hdef
    have o1 := ((b1.set (.int .i64 nx)).kept (grownBy_setCell' _ (B + 2) (.int .i64 0)) (by simp)).kept (grownBy_putObj' _ D (.deferred none)) (by simp; omega)
    have o2 := ((b2.kept (grownBy_setCell' W (B + 1) (.int .i64 nx)) (by simp)).set (.int .i64 0)).kept (grownBy_putObj' _ D (.deferred none)) (by simp; omega)
    have hpY := pg_turn (row := some D) (D := W3.heap.size) hpX hcap (by omega) (grownBy_putObj' _ D (.deferred none)) (fun r hr => by cases hr; exact ⟨by omega, _, hK2, rfl⟩)
    have hkX : Kept F w ((W.setCell ⟨B + 1, 0, none⟩ (.int .i64 nx)).setCell ⟨B + 2, 0, none⟩ (.int .i64 0)) := hk.then_ hKX (fun x hx => .inr (by simp at hx; omega))
    have hkY := kept_turn (row := some D) (D := W3.heap.size) hkX (by omega) (grownBy_putObj' _ D (.deferred none)) (fun r hr => by cases hr; exact ⟨by omega, _, hK2, rfl⟩)
    have x1 := o1.cell
    have x2 := o2.cell
    refine ⟨by simp, .inl ⟨_, _, rfl, run_takeDeferred hK2, ?_⟩⟩
    refine ⟨.tuple #[.int .i64 nx, .int .i64 0], ?_, by rw [e1, e2], ?_⟩
    · simp [results, Tryz.f16, go_sem, x1, x2]
    · rw [e3]
      exact ⟨F1, hpY, hkY, fun x hx => (hF1 x hx).imp id (fun h => by omega)⟩
  case stop =>
    rintro D c pre W hD ⟨k, hkK, rfl⟩ ⟨⟨rfl, hne⟩, F1, ⟨hpg, hF1⟩, ⟨b1, b2⟩, hk, hs⟩ hdef
    obtain ⟨hFB, hbB, hbs2, hgb, hgl, hB, hK, hsz3⟩ := HP.out
    have hok := puL_ok hy v (backL K k)
    have hfull : puL v s (backL K K) = puL v s (backL K k) := by
      obtain ⟨i, rfl⟩ : ∃ i, K = k + i := ⟨K - k, by omega⟩
      have : backL (k + i) (k + i) = backL (k + i) k ++ ((List.range i).map fun j => (k + i) - 1 - (k + j)) := by
        unfold backL
        rw [List.range_add, List.map_append, List.map_map]
        rfl
      rw [this]
      exact puL_stuck hne _
    have e0 : puE s v = (puL v s (backL K k)).e := by unfold puE; rw [if_neg (by omega), hK, hfull]
    have e2 : puI s v = 0 := by unfold puI; rw [e0, if_neg hne]
    have e3 : puT s v = drAll (puL v s (backL K k)).s (puL v s (backL K k)).made := by unfold puT; rw [if_neg (by omega), e0, if_neg hne, hK, hfull]
    have hcap := (drAll_yg hok.yg _ hok.nodup hok.fate).cap
    generalize drAll (puL v s (backL K k)).s (puL v s (backL K k)).made = s9 at *
    generalize (puL v s (backL K k)).e = r at *
    have c1 := b1.cell
    have c2 := b2.cell
    clear hfull hok hne
    have HE := Lib.hid (And.intro e0 (And.intro e2 (And.intro e3 (And.intro hcap (And.intro hpg hk)))))
    clear e0 e2 e3 hcap hpg hk
    gi_wp2
    obtain ⟨e0, e2, e3, hcap, hpg, hk⟩ := HE.out
    have o1 := b1.kept (grownBy_putObj' _ D (.deferred none)) (by simp; omega)
    have o2 := b2.kept (grownBy_putObj' _ D (.deferred none)) (by simp; omega)
    have hpY := pg_turn (row := some D) (D := W3.heap.size) hpg hcap (by omega) (grownBy_putObj' _ D (.deferred none)) (fun r hr => by cases hr; exact ⟨by omega, _, hdef, rfl⟩)
    have hkY := kept_turn (row := some D) (D := W3.heap.size) hk (by omega) (grownBy_putObj' _ D (.deferred none)) (fun r hr => by cases hr; exact ⟨by omega, _, hdef, rfl⟩)
    have x1 := o1.cell
    have x2 := o2.cell
    refine ⟨by simp, .inl ⟨_, _, rfl, run_takeDeferred hdef, ?_⟩⟩
    refine ⟨.tuple #[.int .i64 0, .int .i64 r], ?_, by rw [e0, e2], ?_⟩
    · simp [results, Tryz.f16, go_sem, x1, x2]
    · rw [e3]
      exact ⟨F1, hpY, hkY, fun x hx => (hF1 x hx).imp id (fun h => by omega)⟩
end
end Go.Proofs.YtlignamakiiokaaGreatDoor

namespace Go.Proofs.YtlignamakiiokaaGreatDoor
open Go.RowKit Go.Sort Go.Lib Go.Shelf

attribute [local go_sem] Oper.semAt_some

/-- A value that is empty, or too long: nothing is made, whatever the pager. -/
theorem oput_bad (v : ByteArray) (q : Option Addr) (h : v.size = 0 ∨ 2000 < v.size) (hs : v.size ≤ 9223372036854775807) (w : World) :
    Calls Tryz.prog 16 #[.pointer q, .string v] w fun e w' => e = .returned (.tuple #[.int .i64 0, .int .i64 1]) ∧ Below w.heap.size w w' := by
  refine (callsIn_wide (n := 3)).1 ?_
  refine callsIn_of_wp_marks Tryz.func16 rfl trivial ?_ rfl
  simp only [Tryz.ntmps16, List.size_toArray, List.length_cons, List.length_nil, Nat.reduceAdd, Nat.reduceSub, Array.replicate_succ, Array.replicate_zero, List.push_toArray, List.append_toArray, List.nil_append, List.cons_append]
  by_cases h0 : v.size = 0
  · have hvl2 : v.toList = [] := by
      rw [ByteArray.toList_eq]
      exact List.eq_nil_of_length_eq_zero (by simpa using h0)
    have hvl : v.toList.isEmpty = true := by rw [hvl2]; rfl
    clear h h0
    gi_wp2
    refine ⟨.tuple #[.int .i64 0, .int .i64 1], ?_, rfl, ?_⟩
    · simp [results, Tryz.f16, go_sem]
    · exact (((Below.refl _ w).alloc (Nat.le_refl _) _).alloc (by simp) _).alloc (by simp; omega) _
  · have hvl : v.toList.isEmpty = false := by
      rw [ByteArray.toList_eq]
      have hh : v.data.toList.length ≠ 0 := by simpa using h0
      cases hl : v.data.toList with
      | nil => rw [hl] at hh; simp at hh
      | cons _ _ => rfl
    have hvl2 : ¬ v.toList = [] := fun e => by rw [e] at hvl; simp at hvl
    have g2 : decide ((2000 : Int) < (v.size : Int)) = true := by simp; omega
    clear h h0
    gi_wp2
    refine ⟨.tuple #[.int .i64 0, .int .i64 1], ?_, rfl, ?_⟩
    · simp [results, Tryz.f16, go_sem]
    · exact (((Below.refl _ w).alloc (Nat.le_refl _) _).alloc (by simp) _).alloc (by simp; omega) _

section
variable {p pd pf b : Nat} {s : PgS} {F : List Nat} {w : World}
theorem oput_any (v : ByteArray) (hs : v.size ≤ 9223372036854775807) (hy : Yg s) (hc : s.n < 900000) (h : PgIs p pd pf b s F w) :
    Calls Tryz.prog 16 #[.pointer (some ⟨p, 0, none⟩), .string v] w fun e w' => e = .returned (.tuple #[.int .i64 (puI s v), .int .i64 (puE s v)]) ∧ ∃ F', PgIs p pd pf b (puT s v) F' w' ∧ Goes F w F' w' := by
  by_cases hb : v.size = 0 ∨ 2000 < v.size
  · have e1 : puE s v = 1 := by unfold puE; rw [if_pos hb]
    have e2 : puI s v = 0 := by unfold puI; rw [e1]; rfl
    have e3 : puT s v = s := by unfold puT; rw [if_pos hb]
    rw [e1, e2, e3]
    exact (oput_bad v _ hb hs w).mono fun e w' he => ⟨he.1, F, h.below he.2, goes_below he.2⟩
  · exact oput_in v (by omega) (by omega) hy hc h
end
end Go.Proofs.YtlignamakiiokaaGreatDoor

namespace Go.Proofs.YtlignamakiiokaaGreatDoor
open Go.RowKit Go.Sort Go.Lib

/-- How many pages can be made still. -/
def avail (s : PgS) : Nat := s.spare.length + (s.dev.most - s.pages).toNat
theorem mkE_room {s : PgS} (hy : Yg s) {nx : Int} {t : ByteArray} (h1 : 0 ≤ nx ∧ nx ≤ 60) (ht : t.size ≤ 240) : mkE s 4 nx t = if avail s = 0 then 10 else 0 := by
  obtain ⟨a1, a2, a3, a4⟩ := hy.cnd
  have hm := hy.most
  have hf := hy.few
  have hse : sealE (cand s) 4 nx t.size = 0 := by
    unfold sealE
    rw [if_pos (by unfold SealOK; omega), if_pos ht]
  unfold mkE
  rw [if_neg (by rw [hse]; simp)]
  unfold avail
  by_cases c : s.spare = [] ∧ s.pages = s.dev.most
  · rw [if_pos c, if_pos (by rw [c.1, c.2]; simp)]
  · rw [if_neg c, if_neg]
    intro h
    have h5 : s.spare.length = 0 := by omega
    exact c ⟨List.eq_nil_of_length_eq_zero h5, by omega⟩
theorem avail_mk {s : PgS} (hy : Yg s) (k n : Int) (t : ByteArray) (h : avail s ≠ 0) : avail (mkS s k n t) + 1 = avail s ∧ (0 < s.spare.length → (mkS s k n t).pages = s.pages ∧ (mkS s k n t).spare.length + 1 = s.spare.length) := by
  have hm := hy.most
  unfold avail at h ⊢
  unfold mkS
  by_cases c : s.spare = []
  · rw [if_pos c]
    refine ⟨?_, fun h5 => by rw [c] at h5; simp at h5⟩
    show s.spare.length + (s.dev.most - (s.pages + 1)).toNat + 1 = _
    rw [c] at h ⊢
    simp at h ⊢
    omega
  · rw [if_neg c]
    have h1 : cand s ∈ s.spare := (candL_spec (q := s.pages) c).1
    have h2 : (s.spare.erase (cand s)).length + 1 = s.spare.length := by
      have := List.length_erase_of_mem h1
      have : 0 < s.spare.length := List.length_pos_of_mem h1
      omega
    refine ⟨?_, fun _ => ⟨rfl, h2⟩⟩
    show (s.spare.erase (cand s)).length + (s.dev.most - s.pages).toNat + 1 = _
    omega

theorem pu_room {s : PgS} (v : ByteArray) : ∀ (l : List Nat) (m : Nat) (st : PuS), PuOK s m st → st.e = 0 →
    (l.length ≤ avail st.s → (l.foldl (puStep v) st).e = 0 ∧ avail (l.foldl (puStep v) st).s + l.length = avail st.s ∧ (l.foldl (puStep v) st).made.length = st.made.length + l.length ∧ (l.length ≤ st.s.spare.length → (l.foldl (puStep v) st).s.pages = st.s.pages)) ∧
    (avail st.s < l.length → (l.foldl (puStep v) st).e = 10) := by
  intro l
  induction l with
  | nil => exact fun m st h he => ⟨fun _ => ⟨he, rfl, rfl, fun _ => rfl⟩, fun h => by simp at h⟩
  | cons k l ih =>
    intro m st h he
    have hmk := mkE_room h.yg h.next (pce_small v k)
    by_cases ha : avail st.s = 0
    · rw [if_pos ha] at hmk
      have hst : puStep v st k = { st with e := 10 } := by unfold puStep; rw [if_neg (by rw [he]; simp), hmk, if_neg (by decide)]
      refine ⟨fun hl => by simp at hl; omega, fun _ => ?_⟩
      show (l.foldl (puStep v) (puStep v st k)).e = 10
      rw [hst, puStep_stuck (by simp) l]
    · rw [if_neg ha] at hmk
      have hst : puStep v st k = ⟨0, cand st.s, st.made ++ [cand st.s], mkS st.s 4 st.next (pce v k)⟩ := by unfold puStep; rw [if_neg (by rw [he]; simp), if_pos hmk]
      obtain ⟨h1, h2⟩ := ih (m + 1) _ (h.step v k) (by rw [hst])
      obtain ⟨a1, a2⟩ := avail_mk h.yg 4 st.next (pce v k) ha
      rw [hst] at h1 h2
      simp only at h1 h2
      show (_ → (l.foldl (puStep v) (puStep v st k)).e = 0 ∧ _) ∧ _
      rw [show List.foldl (puStep v) st (k :: l) = l.foldl (puStep v) (puStep v st k) from rfl, hst]
      refine ⟨fun hl => ?_, fun hl => h2 (by simp at hl; omega)⟩
      obtain ⟨b1, b2, b3, b4⟩ := h1 (by simp at hl; omega)
      refine ⟨b1, by simp; omega, by simp at b3 ⊢; omega, fun hsp => ?_⟩
      have hsp2 : l.length + 1 ≤ st.s.spare.length := by simpa using hsp
      obtain ⟨c1, c2⟩ := a2 (by omega)
      rw [b4 (by omega), c1]

/-- What a Put leaves of the pages that were there. -/
structure PuIn (s : PgS) (st : PuS) : Prop where
  keeps : ∀ x, (s.H x).fate = 1 → st.s.H x = s.H x
  fate : ∀ x, (st.s.H x).fate = 1 ↔ (s.H x).fate = 1 ∨ x ∈ st.made
  fresh : ∀ x ∈ st.made, (s.H x).fate ≠ 1
theorem PuIn.new (s : PgS) : PuIn s ⟨0, 0, [], s⟩ := ⟨fun _ _ => rfl, fun x => by simp, by simp⟩
theorem PuIn.step {s : PgS} {m : Nat} {st : PuS} (h : PuIn s st) (ho : PuOK s m st) (v : ByteArray) (k : Nat) : PuIn s (puStep v st k) := by
  unfold puStep
  split
  · exact h
  · split
    · have hcf := cand_fresh ho.yg
      have hcs : (s.H (cand st.s)).fate ≠ 1 := fun e => hcf ((h.fate _).2 (.inl e))
      refine ⟨fun x hx => ?_, fun x => ?_, fun x hx => ?_⟩
      · show (mkS st.s 4 st.next (pce v k)).H x = _
        rw [mkS_at ho.yg _ _ _ _ (fun e => hcs (e ▸ hx))]
        exact h.keeps x hx
      · show ((mkS st.s 4 st.next (pce v k)).H x).fate = 1 ↔ _ ∨ x ∈ st.made ++ [cand st.s]
        by_cases e : x = cand st.s
        · rw [e, mkS_new ho.yg]
          simp
        · rw [mkS_at ho.yg _ _ _ _ e, h.fate]
          simp [e]
      · have hx' : x ∈ st.made ++ [cand st.s] := hx
        rcases List.mem_append.1 hx' with h1 | h1
        · exact h.fresh x h1
        · obtain rfl : x = cand st.s := by simpa using h1
          exact hcs
    · exact ⟨h.keeps, h.fate, h.fresh⟩

/-- The page that was made ahead of the j-th one. -/
def prevOf (l : List Int) (j : Nat) : Int := if j = 0 then 0 else l.getD (j - 1) 0
theorem prevOf_append (l : List Int) (x : Int) (j : Nat) (h : j ≤ l.length) : prevOf (l ++ [x]) j = prevOf l j := by
  unfold prevOf
  split
  · rfl
  · simp only [List.getD]
    rw [List.getElem?_append_left (by omega)]
/-- What stands in the pages that were made. -/
structure PuCh (v : ByteArray) (pre : List Nat) (st : PuS) : Prop where
  len : st.e = 0 → st.made.length = pre.length
  next : st.e = 0 → st.next = prevOf st.made st.made.length
  at_ : ∀ j, j < st.made.length → st.s.H (st.made.getD j 0) = ⟨1, 4, prevOf st.made j, pce v (pre.getD j 0)⟩
theorem PuCh.new (v : ByteArray) (s : PgS) : PuCh v [] ⟨0, 0, [], s⟩ := ⟨fun _ => rfl, fun _ => rfl, fun j hj => by simp at hj⟩
theorem PuCh.step {v : ByteArray} {s : PgS} {m : Nat} {pre : List Nat} {st : PuS} (h : PuCh v pre st) (hl : st.made.length ≤ pre.length) (ho : PuOK s m st) (k : Nat) : PuCh v (pre ++ [k]) (puStep v st k) := by
  have hpre : ∀ j, j < st.made.length → (pre ++ [k]).getD j 0 = pre.getD j 0 := fun j hj => by
    simp only [List.getD]
    rw [List.getElem?_append_left (by omega)]
  unfold puStep
  by_cases he : st.e = 0
  · rw [if_neg (by rw [he]; simp)]
    split
    · have hcf := cand_fresh ho.yg
      have hlen := h.len he
      refine ⟨fun _ => by simp [hlen], fun _ => ?_, fun j hj => ?_⟩
      · show cand st.s = prevOf (st.made ++ [cand st.s]) (st.made ++ [cand st.s]).length
        unfold prevOf
        rw [if_neg (by simp)]
        simp
      · show (mkS st.s 4 st.next (pce v k)).H ((st.made ++ [cand st.s]).getD j 0) = ⟨1, 4, prevOf (st.made ++ [cand st.s]) j, _⟩
        have hj' : j < st.made.length + 1 := by simpa using hj
        by_cases e : j < st.made.length
        · have h1 : (st.made ++ [cand st.s]).getD j 0 = st.made.getD j 0 := by
            simp only [List.getD]
            rw [List.getElem?_append_left e]
          have h2 : st.made.getD j 0 ∈ st.made := by
            simp only [List.getD]
            rw [List.getElem?_eq_getElem e]
            exact List.getElem_mem e
          rw [h1, mkS_at ho.yg _ _ _ _ (fun e2 => hcf (e2 ▸ ho.fate _ h2)), prevOf_append _ _ _ (by omega), hpre j e]
          exact h.at_ j e
        · obtain rfl : j = st.made.length := by omega
          have h1 : (st.made ++ [cand st.s]).getD st.made.length 0 = cand st.s := by simp
          have h2 : (pre ++ [k]).getD st.made.length 0 = k := by rw [hlen]; simp
          rw [h1, mkS_new ho.yg, prevOf_append _ _ _ (Nat.le_refl _), h2, ← h.next he]
    · exact ⟨fun e => absurd e (by assumption), fun e => absurd e (by assumption), fun j hj => by
        show st.s.H (st.made.getD j 0) = ⟨1, 4, prevOf st.made j, pce v ((pre ++ [k]).getD j 0)⟩
        rw [hpre j hj]; exact h.at_ j hj⟩
  · rw [if_pos he]
    exact ⟨fun e => absurd e he, fun e => absurd e he, fun j hj => by rw [hpre j hj]; exact h.at_ j hj⟩

/-- All of it, of a Put's rounds. -/
theorem puL_all {s : PgS} (hy : Yg s) (v : ByteArray) (pre : List Nat) : PuIn s (puL v s pre) ∧ PuCh v pre (puL v s pre) := by
  have key : ∀ (l pre : List Nat) (st : PuS), PuOK s pre.length st → PuIn s st → PuCh v pre st → PuIn s (l.foldl (puStep v) st) ∧ PuCh v (pre ++ l) (l.foldl (puStep v) st) := by
    intro l
    induction l with
    | nil => intro pre st _ h1 h2; rw [List.append_nil]; exact ⟨h1, h2⟩
    | cons k l ih =>
      intro pre st ho h1 h2
      have := ih (pre ++ [k]) (puStep v st k) (by rw [List.length_append]; exact ho.step v k) (h1.step ho v k) (h2.step ho.len ho k)
      rw [show pre ++ k :: l = pre ++ [k] ++ l by simp]
      exact this
  have := key pre [] _ (PuOK.new hy) (PuIn.new s) (PuCh.new v s)
  rwa [List.nil_append] at this

/-- The pages ids bear v, the first one of its chain last. -/
def Chain (s : PgS) (v : ByteArray) (ids : List Int) : Prop := ids.length = nP v.size ∧ ids.Nodup ∧ ∀ j, j < ids.length → s.H (ids.getD j 0) = ⟨1, 4, prevOf ids j, pce v (nP v.size - 1 - j)⟩
theorem Chain.of {s s' : PgS} {v : ByteArray} {ids : List Int} (h : Chain s v ids) (hk : ∀ x ∈ ids, s'.H x = s.H x) : Chain s' v ids := ⟨h.1, h.2.1, fun j hj => by
  rw [hk _ (by simp only [List.getD]; rw [List.getElem?_eq_getElem hj]; exact List.getElem_mem hj)]
  exact h.2.2 j hj⟩
theorem Chain.fate {s : PgS} {v : ByteArray} {ids : List Int} (h : Chain s v ids) : ∀ x ∈ ids, (s.H x).fate = 1 := fun x hx => by
  obtain ⟨j, hj, rfl⟩ := List.getElem_of_mem hx
  have := h.2.2 j hj
  simp only [List.getD] at this
  rw [List.getElem?_eq_getElem hj] at this
  simp at this
  rw [this]

theorem put_ok {s : PgS} (hy : Yg s) (v : ByteArray) (h0 : v.size ≠ 0) (h1 : v.size ≤ 2000) (ha : nP v.size ≤ avail s) :
    puE s v = 0 ∧ ∃ ids, Chain (puT s v) v ids ∧ puI s v = prevOf ids ids.length ∧ Yg (puT s v) ∧ (puT s v).n = s.n + nP v.size ∧ avail (puT s v) + nP v.size = avail s ∧ (nP v.size ≤ s.spare.length → (puT s v).pages = s.pages) ∧ (∀ x, (s.H x).fate = 1 → (puT s v).H x = s.H x) ∧ (∀ x ∈ ids, (s.H x).fate ≠ 1) ∧
      (∀ x, ((puT s v).H x).fate = 1 ↔ (s.H x).fate = 1 ∨ x ∈ ids) := by
  have hbad : ¬ (v.size = 0 ∨ 2000 < v.size) := by omega
  obtain ⟨K, hK⟩ : ∃ K, nP v.size = K := ⟨_, rfl⟩
  have hlen := backL_length K K
  have hroom := (pu_room v (backL K K) 0 ⟨0, 0, [], s⟩ (PuOK.new hy) rfl).1 (by rw [hlen, ← hK]; exact ha)
  obtain ⟨hin, hch⟩ := puL_all hy v (backL K K)
  have hok := puL_ok hy v (backL K K)
  have e1 : puE s v = (puL v s (backL K K)).e := by unfold puE; rw [if_neg hbad, hK]
  have hr : (puL v s (backL K K)).e = 0 ∧ avail (puL v s (backL K K)).s + (backL K K).length = avail s ∧ (puL v s (backL K K)).made.length = 0 + (backL K K).length ∧ ((backL K K).length ≤ s.spare.length → (puL v s (backL K K)).s.pages = s.pages) := hroom
  have e2 : puI s v = (puL v s (backL K K)).next := by unfold puI; rw [e1, if_pos hr.1, hK]
  have e3 : puT s v = (puL v s (backL K K)).s := by unfold puT; rw [if_neg hbad, e1, if_pos hr.1, hK]
  rw [hlen] at hr
  rw [e1, e2, e3, hK]
  generalize puL v s (backL K K) = st at *
  refine ⟨hr.1, st.made, ⟨by rw [hK]; omega, hok.nodup, fun j hj => ?_⟩, hch.next hr.1, hok.yg, by rw [hok.n]; omega, hr.2.1, hr.2.2.2, hin.keeps, hin.fresh, hin.fate⟩
  rw [hch.at_ j hj, hK]
  have : (backL K K).getD j 0 = K - 1 - j := by
    simp only [List.getD, backL]
    rw [List.getElem?_map, List.getElem?_range (by omega)]
    rfl
  rw [this]
theorem oput_full {s : PgS} (hy : Yg s) (v : ByteArray) (h0 : v.size ≠ 0) (h1 : v.size ≤ 2000) (ha : avail s < nP v.size) :
    puE s v = 10 ∧ puI s v = 0 ∧ Yg (puT s v) ∧ (∀ x, ((puT s v).H x).fate = 1 ↔ (s.H x).fate = 1) ∧ (puT s v).n ≤ s.n + 2 * nP v.size := by
  have hbad : ¬ (v.size = 0 ∨ 2000 < v.size) := by omega
  obtain ⟨K, hK⟩ : ∃ K, nP v.size = K := ⟨_, rfl⟩
  have hlen := backL_length K K
  have hroom := (pu_room v (backL K K) 0 ⟨0, 0, [], s⟩ (PuOK.new hy) rfl).2 (by rw [hlen, ← hK]; exact ha)
  obtain ⟨hin, hch⟩ := puL_all hy v (backL K K)
  have hok := puL_ok hy v (backL K K)
  have e1 : puE s v = (puL v s (backL K K)).e := by unfold puE; rw [if_neg hbad, hK]
  have hr : (puL v s (backL K K)).e = 10 := hroom
  have e2 : puI s v = 0 := by unfold puI; rw [e1, hr]; rfl
  have e3 : puT s v = drAll (puL v s (backL K K)).s (puL v s (backL K K)).made := by unfold puT; rw [if_neg hbad, e1, hr, if_neg (by decide), hK]
  rw [e1, e2, e3, hr]
  have hml := hok.len
  rw [hlen] at hml
  generalize puL v s (backL K K) = st at *
  refine ⟨rfl, rfl, drAll_yg hok.yg _ hok.nodup hok.fate, fun x => ?_, ?_⟩
  · by_cases hx : x ∈ st.made
    · constructor
      · intro h
        have hy3 := drAll_yg hok.yg _ hok.nodup hok.fate
        have key : ∀ (L : List Int) (s : PgS), x ∈ L → L.Nodup → ((drAll s L).H x).fate = 3 := by
          intro L
          induction L with
          | nil => intro s hx; simp at hx
          | cons y L ih =>
            intro s hx hn
            rcases List.mem_cons.1 hx with rfl | hx
            · show ((drAll (drS s x) L).H x).fate = 3
              rw [drAll_at _ _ _ (List.nodup_cons.1 hn).1]
              show ((upd s.H x (chg0 3)) x).fate = 3
              rw [upd_same]
              rfl
            · exact ih (drS s y) hx (List.nodup_cons.1 hn).2
        rw [key _ _ hx hok.nodup] at h
        simp at h
      · intro h
        exact absurd h (hin.fresh x hx)
    · rw [drAll_at _ _ _ hx, hin.fate]
      simp [hx]
  · rw [drAll_n, hok.n]
    omega


/-- A chain is walked to its value. -/
theorem chain_walk {s : PgS} (hy : Yg s) {v : ByteArray} {ids : List Int} (h : Chain s v ids) : ∀ i, i ≤ nP v.size →
    wkTo s (prevOf ids ids.length) v.size i = ⟨0, prevOf ids (nP v.size - i), (List.range i).map (fun i => ids.getD (nP v.size - 1 - i) 0), v.data.toList.take (240 * i)⟩ := by
  obtain ⟨hl, hn, hat⟩ := h
  obtain ⟨K, hK⟩ : ∃ K, nP v.size = K := ⟨_, rfl⟩
  rw [hK] at hl hat ⊢
  intro i
  induction i with
  | zero => intro _; rw [hl]; simp [wkTo]
  | succ i ih =>
    intro hi
    have hz := pce_size v i (by omega)
    have hKz : K = (v.size + 239) / 240 := hK.symm
    obtain ⟨j, hj⟩ : ∃ j, K - 1 - i = j := ⟨_, rfl⟩
    have hjK : K - 1 - j = i := by omega
    have hprev : prevOf ids (K - i) = ids.getD j 0 := by unfold prevOf; rw [if_neg (by omega), show K - i - 1 = j by omega]
    have hH := hat j (by omega)
    rw [hjK] at hH
    show wkStep s ((v.size : Int) - 240 * i) (wkTo s (prevOf ids ids.length) v.size i) = _
    rw [ih (by omega)]
    unfold wkStep
    simp only [ne_eq, not_true, if_false]
    rw [hprev]
    have hf1 : (s.H (ids.getD j 0)).fate = 1 := by rw [hH]
    have hrd : rdE s (ids.getD j 0) = 0 := by
      have hp := hy.place (.inl hf1)
      unfold rdE
      rw [if_neg (by omega), if_pos hf1]
    rw [hrd, hH]
    simp only [not_true, if_false]
    rw [if_pos]
    · have hr : List.range (i + 1) = List.range i ++ [i] := List.range_succ
      have hbytes : v.data.toList.take (240 * i) ++ (pce v i).data.toList = v.data.toList.take (240 * (i + 1)) := by
        have hp : (pce v i).data.toList = (v.data.toList.drop (240 * i)).take 240 := by
          unfold pce
          rw [ByteArray.data_extract, Array.toList_extract, List.extract_eq_take_drop]
          have hvl : v.data.toList.length = v.size := by simp
          rcases Nat.le_total (240 * i + 240) v.size with c | c
          · rw [Nat.min_eq_left c, show 240 * i + 240 - 240 * i = 240 by omega]
          · rw [Nat.min_eq_right c, List.take_of_length_le (by rw [List.length_drop]; omega), List.take_of_length_le (by rw [List.length_drop]; omega)]
        rw [hp, show 240 * (i + 1) = 240 * i + 240 by omega, List.take_add]
      rw [hr, List.map_append, List.map_singleton, hj, hbytes, show K - (i + 1) = j by omega]
    · refine ⟨rfl, by rw [hz]; omega, ?_⟩
      unfold prevOf
      by_cases c : j = 0
      · rw [if_pos c]
        exact ⟨fun _ => rfl, fun _ => by omega⟩
      · rw [if_neg c]
        have h2 := hat (j - 1) (by omega)
        have hp := hy.place (x := ids.getD (j - 1) 0) (.inl (by rw [h2]))
        exact ⟨fun _ => by omega, fun _ => by omega⟩
theorem chain_get {s : PgS} (hy : Yg s) {v : ByteArray} {ids : List Int} (h0 : v.size ≠ 0) (h1 : v.size ≤ 2000) (h : Chain s v ids) :
    wkE s (prevOf ids ids.length) v.size = 0 ∧ wkB s (prevOf ids ids.length) v.size = v ∧ wkL s (prevOf ids ids.length) v.size = ids.reverse := by
  have hw := chain_walk hy h (nP v.size) (Nat.le_refl _)
  have e1 : wkE s (prevOf ids ids.length) v.size = 0 := by unfold wkE; rw [if_neg (by omega), Int.toNat_natCast, hw]
  refine ⟨e1, ?_, ?_⟩
  · unfold wkB
    rw [if_pos e1, Int.toNat_natCast, hw]
    have : v.data.toList.take (240 * nP v.size) = v.data.toList := List.take_of_length_le (by have : v.data.toList.length = v.size := by simp
                                                                                              unfold nP; omega)
    rw [this]
  · unfold wkL
    rw [if_pos e1, Int.toNat_natCast, hw]
    refine List.ext_getElem? fun i => ?_
    rw [List.getElem?_map]
    have hl := h.1
    by_cases c : i < nP v.size
    · rw [List.getElem?_range c, List.getElem?_reverse (by omega)]
      simp only [Option.map_some, List.getD]
      rw [hl, List.getElem?_eq_getElem (by omega)]
      rfl
    · rw [List.getElem?_eq_none (by simp; omega), List.getElem?_eq_none (by simp; omega)]
      rfl
theorem chain_first {s : PgS} (hy : Yg s) {v : ByteArray} {ids : List Int} (h0 : v.size ≠ 0) (h : Chain s v ids) : prevOf ids ids.length ∈ ids ∧ IsInt (prevOf ids ids.length) ∧ ids.length = nP v.size := by
  have hl := h.1
  have hK : 0 < nP v.size := by unfold nP; omega
  have hm : prevOf ids ids.length ∈ ids := by
    unfold prevOf
    rw [if_neg (by omega)]
    simp only [List.getD]
    rw [List.getElem?_eq_getElem (by omega)]
    exact List.getElem_mem _
  have hp := hy.place (.inl (h.fate _ hm))
  have := hy.most
  have := hy.few
  exact ⟨hm, by unfold IsInt; omega, hl⟩
theorem avail_new (most : Int) (h1 : 2 ≤ most) : (avail (newPg (longer (newS most) 2) [] 0 [] [] 2 1) : Int) = most - 2 := by
  show (((0 : Nat) + (most - 2).toNat : Nat) : Int) = most - 2
  omega
end Go.Proofs.YtlignamakiiokaaGreatDoor

namespace Go.Proofs.YtlignamakiiokaaGreatDoor
open Go.RowKit Go.Sort Go.Lib

namespace first10
def s0 : PgS := newPg (longer (newS 9) 2) [] 0 [] [] 2 1
theorem y0 : Yg s0 := Yg.new 9 (by omega) (by omega)
end first10

open first10 in
set_option maxRecDepth 1000000 in
set_option maxHeartbeats 4000000 in
theorem alive10_any (w : World) : Calls Tryz.prog 8 #[] w fun e w' => e = .returned (.bool true) ∧ Below w.heap.size w w' := by
  have hbs := base7_ok (w := w) (v := .slice none 0 0) (l := []) 9 2 (by omega) (by omega) (by omega) (Reads1.empty _ _ _ _) (by simp)
  go_enter Tryz.func8, Tryz.ntmps8
  go_wp2_with fail
  refine hbs.mono ?_
  rintro e w1 ⟨pd, q, pf, qf, FD, FF, rfl, hd, hf, hge, hfg, hap, hb⟩
  have hnw := gnew_ok 2 1 hd hf hap (by omega) (by rw [longer_new_len]; omega) (by omega) (by simp [whats]) (by simp)
  have H1 := Lib.hid (And.intro hge (And.intro hfg hb))
  clear hbs hd hf hge hfg hap hb
  go_wp2_with fail
  refine hnw.mono ?_
  rintro e w2 ⟨p, b, F2, rfl, hp2, hF2, hb2⟩
  have hr2 : PgRun w p pd pf b s0 w2 := PgRun.new hp2 hF2 H1.out.1 H1.out.2.1 H1.out.2.2 hb2
  clear hnw hp2 hF2 hb2 H1 F2
  have HR := Lib.hid hr2
  clear hr2
  go_wp2_with (at_make; refine make_bytes _ rfl _ _ rfl 500 rfl rfl (by omega) ?_; intro w3 hrow hb3; have hstr := row_string hrow; have HB3 := Lib.hid hb3; obtain ⟨V, hV⟩ : ∃ V : ByteArray, (⟨(List.replicate 500 (0 : UInt8)).toArray⟩ : ByteArray) = V := ⟨_, rfl⟩; rw [hV] at hstr; have hVs : V.size = 500 := (by rw [← hV]; rfl); have hcut := cut_any V (by omega) w3; clear hrow hb3 hV)
  refine hcut.mono ?_
  rintro e w4 ⟨v4, rfl, hr4, hb4⟩
  have hcl : (cutL V).length = 3 := by rw [cutL_length, hVs]; rfl
  unfold TxRow at hr4
  rw [hcl] at hr4
  obtain ⟨g, cap, cur, rfl, hgb, hgc, -, -, -, hgt⟩ : ∃ g cap cur, v4 = .slice (some ⟨g, 0, none⟩) 3 cap ∧ w3.heap.size ≤ g ∧ w4.heap[g]? = some (.cells cur 9 (0, 0)) ∧ 3 ≤ cap ∧ cap ≤ maxLen ∧ cur.size = cap * 1 ∧ cur.toList.take (3 * 1) = (cutL V).map Value.string := by
    rcases hr4.2 with ⟨_, h⟩ | h
    · omega
    · exact h
  have hg4 : Has w4 g 9 cur := hgc
  have hc2 : cur[2]? = some (Value.string (pce V 2)) := by
    have e1 : (cur.toList.take (3 * 1))[2]? = some (Value.string (pce V 2)) := by
      rw [hgt]
      unfold cutL
      rw [hVs, List.map_map, List.getElem?_map, List.getElem?_range (by decide)]
      rfl
    rw [List.getElem?_take, if_pos (by omega)] at e1
    simpa using e1
  have hp2s : (pce V 2).size = 20 := by rw [pce_size V 2 (by rw [hVs]; decide), hVs]; rfl
  obtain ⟨F, hp3, hstep⟩ := (HR.out.below HB3.out).step
  have hp4 := hp3.below hb4
  have hgF : g ∉ F := fun h => by have := hp3.lt g h; omega
  have hpu := oput_any V (by omega) y0 (by show 0 < 900000; omega) hp4
  obtain ⟨e1, ids, hch, hpi, hyg, hpn, -⟩ := put_ok y0 V (by omega) (by omega) (by rw [hVs]; have := avail_new 9 (by omega); show nP 500 ≤ avail s0; unfold s0 nP; omega)
  obtain ⟨-, hni, hlen⟩ := chain_first hyg (by omega) hch
  obtain ⟨g1, g2, g3⟩ := chain_get hyg (by omega) (by omega) hch
  rw [hVs] at g1 g2 g3 hlen
  rw [e1, hpi] at hpu
  generalize prevOf ids ids.length = n at *
  generalize puT s0 V = s1 at *
  have hgl3 : ids.reverse.length = 3 := by rw [List.length_reverse, hlen]; rfl
  have hget := fun (F1 : List Nat) (w5 : World) (hp5 : PgIs p pd pf b s1 F1 w5) => oget_any (p := p) (pd := pd) (pf := pf) (b := b) n ((500 : Nat) : Int) hni (by unfold IsInt; omega) hyg hp5
  have hpag := fun (F1 : List Nat) (w5 : World) (hp5 : PgIs p pd pf b s1 F1 w5) => opages_any (p := p) (pd := pd) (pf := pf) (b := b) n ((500 : Nat) : Int) hni (by unfold IsInt; omega) hyg hp5
  rw [g1, g2] at hget
  rw [g1, g3] at hpag
  have HG := Lib.hid (And.intro hg4 (And.intro hc2 (And.intro hgF (And.intro hstep (And.intro hb4 (And.intro hgl3 (And.intro hget hpag)))))))
  generalize pce V 2 = P2 at *
  clear hcut hr4 hgc hgt hgb hg4 hc2 hgF hstep hb4 hp3 hp4 hch hpi hyg hpn hni hlen g1 g2 g3 hcl hgl3 e1 hget hpag HR HB3
  go_wp2_with fail
  refine hpu.mono ?_
  rintro e w5 ⟨rfl, F5, hp5, hg5⟩
  obtain ⟨hg4, hc2, hgF, hstep, hb4, hgl3, hget, hpag⟩ := HG.out
  have hr5 := hstep _ _ ⟨F5, hp5, (goes_below hb4).trans hg5⟩
  have hg5' := hg4.kept hg5.1 hgF
  have hgt5 := hget F5 w5 hp5
  have H5 := Lib.hid (And.intro hr5.out (And.intro hg5' hp5))
  clear hpu hp5 hg5 hr5 hg5' hg4 hc2 hgF hstep hb4 hgl3 hget hpag
  go_wp2_with fail
  refine hgt5.mono ?_
  rintro e w6 ⟨rfl, hb6⟩
  have hpg6 := HG.out.2.2.2.2.2.2.2 F5 w6 (H5.out.2.2.below hb6)
  have H6 := Lib.hid hb6
  clear hgt5 hb6
  go_wp2_with fail
  refine hpg6.mono ?_
  rintro e w7 ⟨⟨v7, rfl, hr7⟩, hb7⟩
  obtain ⟨A7, c7, hform⟩ := rform3 hr7
  rw [HG.out.2.2.2.2.2.1] at hform
  subst hform
  have hg7 := (H5.out.2.1.below H6.out H5.out.2.1.inside).below hb7 (Nat.lt_of_lt_of_le H5.out.2.1.inside H6.out.size)
  have d2 := hg7.cell 2
  rw [HG.out.2.1] at d2
  have HW := Lib.hid (H5.out.1.trans ((H6.out.trans (hb7.mono H6.out.size)).mono H5.out.1.size))
  clear hpg6 hr7 hb7 hg7
  go_wp2_with fail
  go_ret
  exact ⟨rfl, HW.out⟩
end Go.Proofs.YtlignamakiiokaaGreatDoor
