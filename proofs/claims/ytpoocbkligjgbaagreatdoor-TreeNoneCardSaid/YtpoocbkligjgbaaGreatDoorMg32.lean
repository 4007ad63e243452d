/-
  A tree's page, loaded: isLeaf, mayStand, open and load. A chain of pages, walked: over's right and walk. The steps of a way, in memory: a row of structs, each with its own row of children. A tree's page, loaded.
-/
import Derived.Test.YtpoocbkligjgbaaGreatDoorMg22
import Derived.Test.YtpoocbkligjgbaaGreatDoorMg28
import Derived.Test.YtpoocbkligjgbaaGreatDoorMg31
import Derived.Test.YtpoocbkligjgbaaGreatDoorMg19
import Derived.Test.YtpoocbkligjgbaaGreatDoorMg29
import Derived.Test.YtpoocbkligjgbaaGreatDoorMg21
import Derived.Test.YtpoocbkligjgbaaGreatDoorShelf3
import Derived.Test.YtpoocbkligjgbaaGreatDoorMg30
namespace Go.Proofs.YtpoocbkligjgbaaGreatDoor
open Go.RowKit Go.Sort Go.Lib

set_option maxRecDepth 100000 in
set_option maxHeartbeats 1000000 in
theorem isLeaf_any (v1 : Value) (A : Option Addr) (n c : Nat) (w : World) : Calls Tryz.prog 108 #[.agg #[v1, .slice A n c]] w fun e w' => e = .returned (.bool (decide (n = 0))) ∧ Below w.heap.size w w' := by
  have hb := alloc_below (w := w) (.cells #[v1, .slice A n c] 197)
  have hx := Has.made w 197 #[v1, .slice A n c]
  have d0 := hx.cell 0
  have d1 := hx.cell 1
  simp at d0 d1
  have HB := Lib.hid hb
  clear hb hx
  have hn : ((n : Int) == 0) = decide (n = 0) := by
    by_cases c : n = 0
    · subst c; rfl
    · rw [decide_eq_false c]; simpa using c
  go_enter Tryz.func108, Tryz.ntmps108
  go_wp2_with fail
  go_ret
  exact ⟨ret_bool rfl, HB.out⟩

set_option maxRecDepth 100000 in
set_option maxHeartbeats 2000000 in
theorem may_any (A1 A2 : Option Addr) (c1 c2 : Nat) (n : Nd) (lv : Nat) (hl : lv ≤ 1000) (w : World) : Calls Tryz.prog 155 #[.agg #[.slice A1 n.items.length c1, .slice A2 n.kids.length c2], .int .i64 lv] w fun e w' => e = .returned (.bool (decide (may n lv))) ∧ Below w.heap.size w w' := by
  obtain ⟨a, ha⟩ : ∃ a, n.items.length = a := ⟨_, rfl⟩
  obtain ⟨b, hb⟩ : ∃ b, n.kids.length = b := ⟨_, rfl⟩
  have hm : decide (may n lv) = if b = 0 then (decide (lv = 1) || decide (0 < a)) else (decide (lv < 30) && (!decide (lv = 1) || decide (1 < b))) := by
    apply Bool.eq_iff_iff.2
    rw [decide_eq_true_iff]
    unfold may
    rw [ha, hb]
    by_cases c : b = 0
    · simp [c]
    · simp [c]
  rw [hm, ha, hb]
  clear hm ha hb n
  have hb1 := alloc_below (w := w) (.cells #[.slice A1 a c1, .slice A2 b c2] 197)
  have hx := Has.made w 197 #[.slice A1 a c1, .slice A2 b c2]
  have d0 := hx.cell 0
  have d1 := hx.cell 1
  simp at d0 d1
  have hil := isLeaf_any (.slice A1 a c1) A2 b c2 (w.alloc (.cells #[.slice A1 a c1, .slice A2 b c2] 197))
  have H1 := Lib.hid (And.intro hb1 hx)
  have hxi := hx.inside
  clear hb1 hx
  by_cases c1 : lv = 1
  · have g1 : ((lv : Int) == 1) = true := by subst c1; rfl
    rw [decide_eq_true c1]
    by_cases c : b = 0
    · rw [decide_eq_true c] at hil
      rw [if_pos c]
      clear c c1
      go_enter Tryz.func155, Tryz.ntmps155
      go_wp2_with fail
      refine hil.mono ?_
      rintro e w1 ⟨rfl, hbl⟩
      have H2 := Lib.hid (H1.out.1.trans (hbl.mono H1.out.1.size))
      clear hbl hil
      go_wp2_with fail
      go_ret
      exact ⟨rfl, H2.out⟩
    · rw [decide_eq_false c] at hil
      rw [if_neg c]
      have g2 : ((lv : Int) < 30) := by omega
      have g4 : decide (lv < 30) = true := by simp; omega
      rw [g4]
      by_cases c2 : 1 < b
      · have g3 : decide ((1 : Int) < (b : Int)) = true := by simp; omega
        rw [decide_eq_true c2]
        clear c c1 c2 g4
        go_enter Tryz.func155, Tryz.ntmps155
        go_wp2_with fail
        refine hil.mono ?_
        rintro e w1 ⟨rfl, hbl⟩
        have q1 := (H1.out.2.below hbl hxi).cell 1
        simp at q1
        have H2 := Lib.hid (H1.out.1.trans (hbl.mono H1.out.1.size))
        clear hbl hil
        go_wp2_with fail
        go_ret
        exact ⟨rfl, H2.out⟩
      · have g3 : decide ((1 : Int) < (b : Int)) = false := by simp; omega
        rw [decide_eq_false c2]
        clear c c1 c2 g4
        go_enter Tryz.func155, Tryz.ntmps155
        go_wp2_with fail
        refine hil.mono ?_
        rintro e w1 ⟨rfl, hbl⟩
        have q1 := (H1.out.2.below hbl hxi).cell 1
        simp at q1
        have H2 := Lib.hid (H1.out.1.trans (hbl.mono H1.out.1.size))
        clear hbl hil
        go_wp2_with fail
        go_ret
        exact ⟨rfl, H2.out⟩
  · have g1 : ((lv : Int) == 1) = false := by simp; omega
    rw [decide_eq_false c1]
    by_cases c : b = 0
    · rw [decide_eq_true c] at hil
      rw [if_pos c]
      clear c c1
      go_enter Tryz.func155, Tryz.ntmps155
      go_wp2_with fail
      refine hil.mono ?_
      rintro e w1 ⟨rfl, hbl⟩
      have q0 := (H1.out.2.below hbl hxi).cell 0
      simp at q0
      have H2 := Lib.hid (H1.out.1.trans (hbl.mono H1.out.1.size))
      clear hbl hil
      go_wp2_with fail
      go_ret
      exact ⟨ret_bool (by simp), H2.out⟩
    · rw [decide_eq_false c] at hil
      rw [if_neg c]
      have e0 : (decide (lv < 30) && (!false || decide (1 < b))) = decide ((lv : Int) < 30) := by
        by_cases c2 : lv < 30
        · have c3 : (lv : Int) < 30 := by omega
          simp [c2, c3]
        · have c3 : ¬ (lv : Int) < 30 := by omega
          simp [c2, c3]
      rw [e0]
      clear c c1 e0
      by_cases c2 : (lv : Int) < 30
      · have g3 : decide ((lv : Int) < 30) = true := decide_eq_true c2
        rw [g3]
        clear c2
        go_enter Tryz.func155, Tryz.ntmps155
        go_wp2_with fail
        refine hil.mono ?_
        rintro e w1 ⟨rfl, hbl⟩
        have H2 := Lib.hid (H1.out.1.trans (hbl.mono H1.out.1.size))
        clear hbl hil
        go_wp2_with fail
        go_ret
        exact ⟨rfl, H2.out⟩
      · have g3 : decide ((lv : Int) < 30) = false := decide_eq_false c2
        rw [g3]
        clear c2
        go_enter Tryz.func155, Tryz.ntmps155
        go_wp2_with fail
        refine hil.mono ?_
        rintro e w1 ⟨rfl, hbl⟩
        have H2 := Lib.hid (H1.out.1.trans (hbl.mono H1.out.1.size))
        clear hbl hil
        go_wp2_with fail
        go_ret
        exact ⟨rfl, H2.out⟩

/-- All of a block of two cells, stored anew. -/
theorem Has.put2 {g : Nat} {t : TypeId} {a b : Value} {w : World} (h : Has w g t #[a, b]) (u v : Value) : Has ((w.setCell ⟨g, 0, none⟩ u).setCell ⟨g, 1, none⟩ v) g t #[u, v] := by
  have := (h.put 0 u).put 1 v
  simpa using this
theorem Has.put3 {g : Nat} {t : TypeId} {a b c : Value} {w : World} (h : Has w g t #[a, b, c]) (u v x : Value) : Has (((w.setCell ⟨g, 0, none⟩ u).setCell ⟨g, 1, none⟩ v).setCell ⟨g, 2, none⟩ x) g t #[u, v, x] := by
  have := ((h.put 0 u).put 1 v).put 2 x
  simpa using this
theorem below_put2 {B g : Nat} {w w' : World} (h : Below B w w') (hg : B ≤ g) (u v : Value) : Below B w ((w'.setCell ⟨g, 0, none⟩ u).setCell ⟨g, 1, none⟩ v) := (h.setCell (p := ⟨g, 0, none⟩) hg _).setCell (p := ⟨g, 1, none⟩) hg _
theorem below_put3 {B g : Nat} {w w' : World} (h : Below B w w') (hg : B ≤ g) (u v x : Value) : Below B w (((w'.setCell ⟨g, 0, none⟩ u).setCell ⟨g, 1, none⟩ v).setCell ⟨g, 2, none⟩ x) := ((h.setCell (p := ⟨g, 0, none⟩) hg _).setCell (p := ⟨g, 1, none⟩) hg _).setCell (p := ⟨g, 2, none⟩) hg _
/-- A row lies elsewhere than a block of another type that is stored. -/
theorem row_put {base n size g : Nat} {t t2 : TypeId} {xs : List Value} {v u : Value} {cs : Array Value} {i : Nat} {w : World} (h : w.ownsRow base t size v n xs) (hg : Has w g t2 cs) (ht : t ≠ t2) : (w.setCell ⟨g, i, none⟩ u).ownsRow base t size v n xs := by
  refine row_kept h (Kept.setCell (Kept.refl [g] w) (p := ⟨g, i, none⟩) (.inl (by simp)) u) fun k hk => ?_
  rcases h.2 with ⟨rfl, _⟩ | ⟨g', cap, cur, rfl, _, hgc, _⟩
  · simp [Value.ownBlock] at hk
  · simp [Value.ownBlock] at hk
    subst hk
    intro hm
    obtain rfl : g' = g := by simpa using hm
    have h3 : w.heap[g']? = _ := hg
    rw [hgc] at h3
    simp at h3
    exact ht h3.2
theorem row_put2 {base n size g : Nat} {t t2 : TypeId} {xs : List Value} {v a b u x : Value} {w : World} (h : w.ownsRow base t size v n xs) (hg : Has w g t2 #[a, b]) (ht : t ≠ t2) : ((w.setCell ⟨g, 0, none⟩ u).setCell ⟨g, 1, none⟩ x).ownsRow base t size v n xs := row_put (row_put h hg ht) (hg.put 0 u) ht
theorem row_put3 {base n size g : Nat} {t t2 : TypeId} {xs : List Value} {v a b c u x y : Value} {w : World} (h : w.ownsRow base t size v n xs) (hg : Has w g t2 #[a, b, c]) (ht : t ≠ t2) : (((w.setCell ⟨g, 0, none⟩ u).setCell ⟨g, 1, none⟩ x).setCell ⟨g, 2, none⟩ y).ownsRow base t size v n xs := row_put (row_put (row_put h hg ht) (hg.put 0 u) ht) ((hg.put 0 u).put 1 x) ht

theorem row_below {base n size : Nat} {t : TypeId} {xs : List Value} {v : Value} {w w' : World} (h : w.ownsRow base t size v n xs) (hb : Below w.heap.size w w') : w'.ownsRow base t size v n xs := row_kept h (F := []) (Kept.of_below hb) (by simp)

set_option maxRecDepth 100000 in
set_option maxHeartbeats 4000000 in
theorem tropen_any (k nx : Int) (t : ByteArray) (w : World) (ht : t.size ≤ 9223372036854775807) :
    Calls Tryz.prog 154 #[.agg #[.int .i64 k, .int .i64 nx, .string t]] w fun e w' => ((∃ v1 v2 n, e = .returned (.tuple #[.agg #[v1, v2], .bool true]) ∧ opn k t = some n ∧ w'.ownsRow w.heap.size 126 4 v1 n.items.length (ilist n.items) ∧ w'.ownsRow w.heap.size 204 2 v2 n.kids.length (BR.ilist n.kids)) ∨
      (opn k t = none ∧ e = .returned (.tuple #[.agg #[.slice none 0 0, .slice none 0 0], .bool false]))) ∧ Below w.heap.size w w' := by
  have hW1 := alloc_below (w := w) (.cells #[.int .i64 k, .int .i64 nx, .string t] 60)
  have hW2 := hW1.alloc (o := .cells #[.slice none 0 0, .slice none 0 0] 197) (Nat.le_of_lt (by simp))
  have hN := Has.made (w.alloc (.cells #[.int .i64 k, .int .i64 nx, .string t] 60)) 197 #[.slice none 0 0, .slice none 0 0]
  have hX := (Has.made w 60 #[.int .i64 k, .int .i64 nx, .string t]).alloc (.cells #[.slice none 0 0, .slice none 0 0] 197)
  have hB1 : (w.alloc (.cells #[.int .i64 k, .int .i64 nx, .string t] 60)).heap.size = w.heap.size + 1 := by simp
  have hGI := get_any8 t ((w.alloc (.cells #[.int .i64 k, .int .i64 nx, .string t] 60)).alloc (.cells #[.slice none 0 0, .slice none 0 0] 197)) ht
  have hGC := BR.get_any8 t ((w.alloc (.cells #[.int .i64 k, .int .i64 nx, .string t] 60)).alloc (.cells #[.slice none 0 0, .slice none 0 0] 197)) ht
  have hs2 : w.heap.size + 2 = ((w.alloc (.cells #[.int .i64 k, .int .i64 nx, .string t] 60)).alloc (.cells #[.slice none 0 0, .slice none 0 0] 197)).heap.size := by simp
  rw [hB1] at hN
  have y0 := hN.free 0
  have y1 := hN.free 1
  have HB := Lib.hid (And.intro hW2 (And.intro hN hs2))
  clear hW1 hW2 hN hX hB1
  go_enter Tryz.func154, Tryz.ntmps154
  by_cases k2 : k = 2
  · subst k2
    clear hGC
    go_wp2_with fail
    refine hGI.mono ?_
    rintro e w1 ⟨v, ⟨l, rfl, hl, hr, hb⟩ | ⟨rfl, rfl, hno, hb⟩⟩
    · obtain ⟨A, c, rfl⟩ := row_form hr
      obtain ⟨hW2, hN, hs2⟩ := HB.out
      have hN1 := hN.below hb hN.inside
      have y0 := hN1.free 0
      have y1 := hN1.free 1
      have z0 := hN1.cell 0
      have z1 := hN1.cell 1
      simp at z0 z1
      have H1 := Lib.hid (And.intro hW2 (And.intro hN1 (And.intro hb (And.intro hl (And.intro hr hs2)))))
      obtain ⟨m, hm⟩ : ∃ m, l.length = m := ⟨_, rfl⟩
      have HM := Lib.hid hm
      rw [hm]
      clear hr hl hb hW2 hN hs2 hN1 hm hGI
      go_wp2_with fail
      obtain ⟨hW2, hN1, hb, hl, hr, hs2⟩ := H1.out
      have hm := HM.out
      subst hm
      have hP := hN1.put2 (.slice A l.length c) (.slice none 0 0)
      have e0 := hP.cell 0
      have e1 := hP.cell 1
      simp at e0 e1
      have hbb : Below w.heap.size w w1 := hW2.trans (hb.mono (by omega))
      refine bodyPost_ret (v := .tuple #[.agg #[.slice A l.length c, .slice none 0 0], .bool true]) (by simp [results, Tryz.results154, go_sem, e0, e1]) rfl ⟨.inl ⟨_, _, ⟨l, []⟩, rfl, by unfold opn; rw [if_pos rfl, leafOf_some hl]; rfl, row_put2 (row_lower hr (by omega)) hN1 (by decide), World.ownsRow_nil _ _ _ _⟩, below_put2 hbb (by omega) _ _⟩
    · obtain ⟨hW2, hN, hs2⟩ := HB.out
      have hN1 := hN.below hb hN.inside
      have y0 := hN1.free 0
      have y1 := hN1.free 1
      have z0 := hN1.cell 0
      have z1 := hN1.cell 1
      simp at z0 z1
      have H1 := Lib.hid (And.intro hW2 (And.intro hN1 (And.intro hb (And.intro hno hs2))))
      clear hno hb hW2 hN hs2 hN1 hGI
      go_wp2_with fail
      obtain ⟨hW2, hN1, hb, hno, hs2⟩ := H1.out
      have hP := hN1.put2 (.slice none 0 0) (.slice none 0 0)
      have e0 := hP.cell 0
      have e1 := hP.cell 1
      simp at e0 e1
      have hbb : Below w.heap.size w w1 := hW2.trans (hb.mono (by omega))
      refine bodyPost_ret (v := .tuple #[.agg #[.slice none 0 0, .slice none 0 0], .bool false]) (by simp [results, Tryz.results154, go_sem, e0, e1]) rfl ⟨.inr ⟨by unfold opn; rw [if_pos rfl, leafOf_none hno]; rfl, rfl⟩, below_put2 hbb (by omega) _ _⟩
  · have n2 : (k == 2) = false := by simpa using k2
    by_cases k3 : k = 3
    · subst k3
      clear hGI k2
      go_wp2_with fail
      refine hGC.mono ?_
      rintro e w1 ⟨v, ⟨l, rfl, hl, hr, hb⟩ | ⟨rfl, rfl, hno, hb⟩⟩
      · obtain ⟨A, c, rfl⟩ := row_form hr
        obtain ⟨hW2, hN, hs2⟩ := HB.out
        have hN1 := hN.below hb hN.inside
        have y0 := hN1.free 0
        have y1 := hN1.free 1
        have z0 := hN1.cell 0
        have z1 := hN1.cell 1
        simp at z0 z1
        have H1 := Lib.hid (And.intro hW2 (And.intro hN1 (And.intro hb (And.intro hl (And.intro hr hs2)))))
        obtain ⟨m, hm⟩ : ∃ m, l.length = m := ⟨_, rfl⟩
        have HM := Lib.hid hm
        rw [hm]
        clear hr hl hb hW2 hN hs2 hN1 hm hGC
        go_wp2_with fail
        obtain ⟨hW2, hN1, hb, hl, hr, hs2⟩ := H1.out
        have hm := HM.out
        subst hm
        have hP := hN1.put2 (.slice none 0 0) (.slice A l.length c)
        have e0 := hP.cell 0
        have e1 := hP.cell 1
        simp at e0 e1
        have hbb : Below w.heap.size w w1 := hW2.trans (hb.mono (by omega))
        refine bodyPost_ret (v := .tuple #[.agg #[.slice none 0 0, .slice A l.length c], .bool true]) (by simp [results, Tryz.results154, go_sem, e0, e1]) rfl ⟨.inl ⟨_, _, ⟨[], l⟩, rfl, by unfold opn; rw [if_neg (by decide), if_pos rfl, brOf_some hl]; rfl, World.ownsRow_nil _ _ _ _, row_put2 (row_lower hr (by omega)) hN1 (by decide)⟩, below_put2 hbb (by omega) _ _⟩
      · obtain ⟨hW2, hN, hs2⟩ := HB.out
        have hN1 := hN.below hb hN.inside
        have y0 := hN1.free 0
        have y1 := hN1.free 1
        have z0 := hN1.cell 0
        have z1 := hN1.cell 1
        simp at z0 z1
        have H1 := Lib.hid (And.intro hW2 (And.intro hN1 (And.intro hb (And.intro hno hs2))))
        clear hno hb hW2 hN hs2 hN1 hGC
        go_wp2_with fail
        obtain ⟨hW2, hN1, hb, hno, hs2⟩ := H1.out
        have hP := hN1.put2 (.slice none 0 0) (.slice none 0 0)
        have e0 := hP.cell 0
        have e1 := hP.cell 1
        simp at e0 e1
        have hbb : Below w.heap.size w w1 := hW2.trans (hb.mono (by omega))
        refine bodyPost_ret (v := .tuple #[.agg #[.slice none 0 0, .slice none 0 0], .bool false]) (by simp [results, Tryz.results154, go_sem, e0, e1]) rfl ⟨.inr ⟨by unfold opn; rw [if_neg (by decide), if_pos rfl, brOf_none hno]; rfl, rfl⟩, below_put2 hbb (by omega) _ _⟩
    · have n3 : (k == 3) = false := by simpa using k3
      have HK := Lib.hid (And.intro k2 k3)
      clear hGI hGC k2 k3
      go_wp2_with fail
      obtain ⟨hW2, hN1, hs2⟩ := HB.out
      have e0 := hN1.cell 0
      have e1 := hN1.cell 1
      simp at e0 e1
      exact bodyPost_ret (v := .tuple #[.agg #[.slice none 0 0, .slice none 0 0], .bool false]) (by simp [results, Tryz.results154, go_sem, e0, e1]) rfl ⟨.inr ⟨by unfold opn; rw [if_neg HK.out.1, if_neg HK.out.2], rfl⟩, hW2⟩

end Go.Proofs.YtpoocbkligjgbaaGreatDoor

namespace Go.Proofs.YtpoocbkligjgbaaGreatDoor
open Go.RowKit Go.Sort Go.Lib

/-- Whether a page may stand in a chain where so many bytes are left. -/
def rightP (k n : Int) (z : Nat) (left : Int) : Prop := k = 4 ∧ (z : Int) = min left 240 ∧ (left ≤ 240 ↔ n = 0)
instance (k n : Int) (z : Nat) (left : Int) : Decidable (rightP k n z left) := by unfold rightP; exact inferInstance


/-- Where a walk along a chain stands: the error, the next page, the pages, the bytes. -/
structure WkS where
  e : Int
  id : Int
  ids : List Int
  bs : List UInt8
def wkStep (s : PgS) (left : Int) (st : WkS) : WkS :=
  if st.e ≠ 0 then st
  else if rdE s st.id ≠ 0 then { st with e := rdE s st.id }
  else if rightP (s.H st.id).kind (s.H st.id).next (s.H st.id).body.size left then ⟨0, (s.H st.id).next, st.ids ++ [st.id], st.bs ++ (s.H st.id).body.data.toList⟩
  else { st with e := 15 }
def wkTo (s : PgS) (first size : Int) : Nat → WkS
  | 0 => ⟨0, first, [], []⟩
  | j + 1 => wkStep s (size - 240 * j) (wkTo s first size j)
def wkE (s : PgS) (first size : Int) : Int := if size < 1 ∨ 2000 < size then 1 else (wkTo s first size (nP size.toNat)).e
def wkL (s : PgS) (first size : Int) : List Int := if wkE s first size = 0 then (wkTo s first size (nP size.toNat)).ids else []

/-- A list of numbers of the call's own. -/
def NInts (w : World) (base : Nat) (v : Value) (l : List Int) : Prop := w.ownsRow base 3 1 v l.length (l.map (Value.int .i64))
theorem Tryz.infoIntO : (Tryz.prog.info? 3).map (fun i => (i.zero, i.size, i.bytes)) = some (some (.int .i64 0), 1, 8) := by kernel_rfl
theorem NInts.below {w w' : World} {base : Nat} {v : Value} {l : List Int} (h : NInts w base v l) (hb : Below w.heap.size w w') : NInts w' base v l := row_kept h (F := []) (Kept.of_below hb) (by simp)
/-- A row of numbers beside a builder that is written to. -/
theorem NInts.beside {w w' : World} {b base : Nat} {v : Value} {l : List Int} (h : NInts w base v l) (hk : KeepsBut b w w') (hb : b < base) : NInts w' base v l := by
  refine ⟨h.1, ?_⟩
  rcases h.2 with hnil | ⟨g, cap, cur, rfl, hbg, hg, rest⟩
  · exact .inl hnil
  · exact .inr ⟨g, cap, cur, rfl, hbg, hk g 3 cur (by omega) (by decide) hg, rest⟩
end Go.Proofs.YtpoocbkligjgbaaGreatDoor

namespace Go.Proofs.YtpoocbkligjgbaaGreatDoor
open Go.RowKit Go.Sort Go.Lib

/-- A row of one type stays while a row of another type grows. -/
theorem rowO_grown {base n base2 m size1 size2 : Nat} {t t2 : TypeId} {xs ys : List Value} {v v2 : Value} {w w' : World} (h : w.ownsRow base t size1 v n xs) (ht : t ≠ t2) (hr : w.ownsRow base2 t2 size2 v2 m ys) (hg : w.grownBy w' v2.ownBlock) : w'.ownsRow base t size1 v n xs := by
  refine ⟨h.1, ?_⟩
  rcases h.2 with hnil | ⟨g, cap, cur, rfl, hbg, hgc, rest⟩
  · exact .inl hnil
  · refine .inr ⟨g, cap, cur, rfl, hbg, ?_, rest⟩
    refine (hg.block g (Array.getElem?_eq_some_iff.1 hgc).1 fun e => ?_).trans hgc
    rcases hr.2 with ⟨rfl, _⟩ | ⟨g', cap', cur', rfl, _, hgc', _⟩
    · simp [Value.ownBlock] at e
    · simp [Value.ownBlock] at e
      subst e
      rw [hgc] at hgc'
      simp at hgc'
      exact ht hgc'.2
def stcells (x : Stp × Value) : List Value := [.int .i64 x.1.page, x.2, .int .i64 x.1.place]
def stlist (P : List (Stp × Value)) : List Value := P.flatMap stcells
/-- An object of another type stays while a row grows. -/
theorem hasT_grown {g base n size : Nat} {t t2 : TypeId} {cs : Array Value} {xs : List Value} {v : Value} {w w' : World} (h : Has w g t cs) (ht : t ≠ t2) (hr : w.ownsRow base t2 size v n xs) (hg : w.grownBy w' v.ownBlock) : Has w' g t cs := by
  refine (hg.block g h.inside fun e => ?_).trans h
  rcases hr.2 with ⟨rfl, _⟩ | ⟨g', cap, cur, rfl, _, hgc, _⟩
  · simp [Value.ownBlock] at e
  · simp [Value.ownBlock] at e
    subst e
    have h3 : w.heap[g]? = _ := h
    rw [hgc] at h3
    simp at h3
    exact ht h3.2.symm
/-- A row of children of the call's own. -/
def CRow (w : World) (v : Value) (l : List BR.Chd) : Prop := w.ownsRow 0 204 2 v l.length (BR.ilist l)
theorem CRow.below {w w' : World} {v : Value} {l : List BR.Chd} (h : CRow w v l) (hb : Below w.heap.size w w') : CRow w' v l := row_below h hb
theorem CRow.reads {w : World} {v : Value} {l : List BR.Chd} (h : CRow w v l) : BR.ReadsIt w w.heap.size v l := BR.row_readsIt h
/-- The steps l are v, a row from base on. -/
def NSteps (w : World) (base : Nat) (v : Value) (l : List Stp) : Prop :=
  ∃ P : List (Stp × Value), P.map Prod.fst = l ∧ w.ownsRow base 202 3 v l.length (stlist P) ∧ ∀ q ∈ P, CRow w q.2 q.1.kids
theorem NSteps.below {w w' : World} {base : Nat} {v : Value} {l : List Stp} (h : NSteps w base v l) (hb : Below w.heap.size w w') : NSteps w' base v l := by
  obtain ⟨P, h1, h2, h3⟩ := h
  exact ⟨P, h1, row_below h2 hb, fun q hq => (h3 q hq).below hb⟩
theorem NSteps.nil (w : World) (base : Nat) : NSteps w base (.slice none 0 0) [] := ⟨[], rfl, World.ownsRow_nil _ _ _ _, by simp⟩
theorem NSteps.form {w : World} {base : Nat} {v : Value} {l : List Stp} (h : NSteps w base v l) : ∃ A c, v = .slice A l.length c := by
  obtain ⟨P, _, h2, _⟩ := h
  exact row_form h2

theorem Tryz.infoStep : (Tryz.prog.info? 202).map (fun i => (i.zero, i.size, i.bytes)) = some (some (.agg #[.int .i64 0, .slice none 0 0, .int .i64 0]), 3, 40) := by kernel_rfl

section
variable {ops : Array Oper} {rest : List Oper} {o : Oper} {a : Act} {Q : Exit → Act → World → Prop}
/-- append(steps, x) of one step, which was laid just now. -/
theorem append_step (hgd : o.guard = none) (s x : Operand) (ho : o.op = .call { callee := .builtin .append, args := #[s, x], argTypes := #[119, 119] }) (base : Nat) (wr : World) (d : Value) (l : List Stp) (hs : a.eval s = d) (hrow : NSteps wr base d l)
    (id : Int) (vc : Value) (kids : List BR.Chd) (hk : CRow wr vc kids) (pl : Nat) (hx : a.eval x = .slice (some ⟨wr.heap.size, 0, none⟩) 1 1) (hlen : l.length ≤ 1000) (hbase : base ≤ wr.heap.size)
    (h : ∀ v' w', NSteps w' base v' (l ++ [⟨id, kids, pl⟩]) → CRow w' vc kids → (∀ g t cs, Has wr g t cs → t ≠ 202 → Has w' g t cs) → Below base wr w' → wpList Tryz.prog ops Q rest (a.put o.dst v') w') :
    wpList Tryz.prog ops Q (o :: rest) a (wr.alloc (.cells #[.int .i64 id, vc, .int .i64 pl] 202)) := by
  obtain ⟨i0, hi, hz0, hz1, hz2⟩ := info_parts Tryz.infoStep
  obtain ⟨P, h1, h2, h3⟩ := hrow
  have hPl : P.length = l.length := by rw [← h1]; simp
  have hra := World.ownsRow.alloc h2 (.cells #[.int .i64 id, vc, .int .i64 pl] 202)
  obtain ⟨Ac, cc, rfl⟩ := row_form hk
  have hn := Has.made wr 202 #[.int .i64 id, .slice Ac kids.length cc, .int .i64 pl]
  refine wpList_append_own _ hgd s x 119 ho base 202 i0 _ 3 40 Tryz.underlying119 hi hz0 hz1 hz2 rfl (by decide) _ l.length (stlist P) hs hra ⟨wr.heap.size, 0, none⟩ 1 1 [.int .i64 id, .slice Ac kids.length cc, .int .i64 pl] hx rfl
    (fun j u hu => by rw [Go.WideShapes.add_plain, Nat.zero_add, hn.cell j]; simpa using hu) (by intro u hu; simp at hu; rcases hu with rfl | rfl | rfl <;> rfl) (by unfold maxLen; omega) (by omega) (by simp; omega) ?_
  intro v' w' k1 k2 _
  have hba := alloc_below (w := wr) (.cells #[.int .i64 id, .slice Ac kids.length cc, .int .i64 pl] 202)
  have hck : CRow w' (.slice Ac kids.length cc) kids := rowO_grown (row_below hk hba) (by decide) hra k2
  refine h v' w' ⟨P ++ [(⟨id, kids, pl⟩, .slice Ac kids.length cc)], by simp [h1], ?_, fun q hq => ?_⟩ hck (fun g t cs hh ht => hasT_grown (hh.alloc _) ht hra k2) (((Below.refl base wr).alloc hbase _).trans ((Below.refl base _).grown k2 (by simp; omega) (fun k hk => (World.ownsRow.lt hra k hk).1)))
  · rw [List.length_append]
    have e : stlist (P ++ [(⟨id, kids, pl⟩, .slice Ac kids.length cc)]) = stlist P ++ [.int .i64 id, .slice Ac kids.length cc, .int .i64 pl] := by simp [stlist, stcells]
    rw [e]
    exact k1
  · rcases List.mem_append.1 hq with hq | hq
    · exact rowO_grown (row_below (h3 q hq) hba) (by decide) hra k2
    · obtain rfl : q = _ := by simpa using hq
      exact hck
end
end Go.Proofs.YtpoocbkligjgbaaGreatDoor

namespace Go.Proofs.YtpoocbkligjgbaaGreatDoor
open Go.RowKit Go.Sort Go.Lib

section
variable {p pd pf b : Nat} {s : PgS} {F : List Nat} {w : World}

/-- What load tells. -/
def LoadTo (s : PgS) (id : Int) (lv : Nat) (w : World) (e : Ending) (w' : World) : Prop :=
  ((∃ A1 c1 A2 c2 n, e = .returned (.tuple #[.agg #[.slice A1 n.items.length c1, .slice A2 n.kids.length c2], .int .i64 0]) ∧ ldN s id lv = some n ∧ w'.ownsRow w.heap.size 126 4 (.slice A1 n.items.length c1) n.items.length (ilist n.items) ∧ w'.ownsRow w.heap.size 204 2 (.slice A2 n.kids.length c2) n.kids.length (BR.ilist n.kids)) ∨
    (ldN s id lv = none ∧ e = .returned (.tuple #[.agg #[.slice none 0 0, .slice none 0 0], .int .i64 (ldE s id lv)]))) ∧ Below w.heap.size w w'

set_option maxRecDepth 100000 in
set_option maxHeartbeats 8000000 in
/-- What stands in a page so many levels down. -/
theorem load_any (id : Int) (lv : Nat) (hid : IsInt id) (hlv : lv ≤ 1000) (hy : Yg s) (h : PgIs p pd pf b s F w) :
    Calls Tryz.prog 107 #[.pointer (some ⟨p, 0, none⟩), .int .i64 id, .int .i64 lv] w (LoadTo s id lv w) := by
  have hz := alloc_below (w := w) (.cells #[.slice none 0 0, .slice none 0 0] 197)
  have hN := Has.made w 197 #[.slice none 0 0, .slice none 0 0]
  have hrd := gread_y id hid hy (h.below hz)
  have HB := Lib.hid (And.intro hz hN)
  clear hz hN h
  rcases hy.rd id with ⟨r1, r2, r3, r4⟩ | hr
  · have hbody := hy.body r2
    have hrd1 : Calls Tryz.prog 39 #[.pointer (some ⟨p, 0, none⟩), .int .i64 id] (w.alloc (.cells #[.slice none 0 0, .slice none 0 0] 197)) fun e w' => e = .returned (.tuple #[.agg #[.int .i64 (s.H id).kind, .int .i64 (s.H id).next, .string (s.H id).body], .int .i64 0]) ∧ Below (w.alloc (.cells #[.slice none 0 0, .slice none 0 0] 197)).heap.size (w.alloc (.cells #[.slice none 0 0, .slice none 0 0] 197)) w' := hrd.mono fun e w' he => by
      rcases he.1 with ⟨_, _, h3⟩ | ⟨h3, _⟩
      · exact ⟨h3, he.2⟩
      · exact absurd r1 h3
    have eN : ldN s id lv = ldO (s.H id).kind (s.H id).next (s.H id).body lv := by unfold ldN; rw [if_pos r1]
    have eE : ldE s id lv = if ldO (s.H id).kind (s.H id).next (s.H id).body lv = none then 15 else 0 := by unfold ldE; rw [if_neg (by rw [r1]; simp)]
    have HE := Lib.hid (And.intro eN eE)
    clear eN eE
    generalize (s.H id).kind = k at *
    generalize (s.H id).next = nx at *
    generalize (s.H id).body = t at *
    have ht : t.size ≤ 9223372036854775807 := by omega
    have HT := Lib.hid ht
    clear hrd r1 r2 r3 r4 hbody hy ht hid
    go_enter Tryz.func107, Tryz.ntmps107
    go_wp2_with fail
    refine hrd1.mono ?_
    rintro e w1 ⟨rfl, hb1⟩
    have hbx := Has.made w1 60 #[.int .i64 k, .int .i64 nx, .string t]
    have hba := alloc_below (w := w1) (.cells #[.int .i64 k, .int .i64 nx, .string t] 60)
    have hop := tropen_any k nx t (w1.alloc (.cells #[.int .i64 k, .int .i64 nx, .string t] 60)) HT.out
    obtain ⟨hz, hN⟩ := HB.out
    have hN1 := (hN.below hb1 hN.inside).alloc (.cells #[.int .i64 k, .int .i64 nx, .string t] 60)
    have hbw : Below w.heap.size w (w1.alloc (.cells #[.int .i64 k, .int .i64 nx, .string t] 60)) := (hz.trans (hb1.mono hz.size)).trans (hba.mono (Nat.le_trans hz.size hb1.size))
    have H1 := Lib.hid (And.intro hbw (And.intro hN1 hbx))
    clear hz hN hN1 hbw hb1 hbx hba hrd1 HB
    go_wp2_with fail
    refine hop.mono ?_
    rintro e w2 ⟨⟨v1, v2, n, rfl, hn, hr1, hr2⟩ | ⟨hn, rfl⟩, hb2⟩
    · obtain ⟨A1, c1, rfl⟩ := row_form hr1
      obtain ⟨A2, c2, rfl⟩ := row_form hr2
      obtain ⟨hbw, hN1, hbx⟩ := H1.out
      have hN2 := (hN1.below hb2 hN1.inside).alloc (.cells #[.slice A1 n.items.length c1, .slice A2 n.kids.length c2] 197)
      have hX2 := (hbx.below hb2 hbx.inside).alloc (.cells #[.slice A1 n.items.length c1, .slice A2 n.kids.length c2] 197)
      have hM := Has.made w2 197 #[.slice A1 n.items.length c1, .slice A2 n.kids.length c2]
      have hba := alloc_below (w := w2) (.cells #[.slice A1 n.items.length c1, .slice A2 n.kids.length c2] 197)
      have hbw2 := (hbw.trans (hb2.mono hbw.size)).trans (hba.mono (Nat.le_trans hbw.size hb2.size))
      have hmy := may_any A1 A2 c1 c2 n lv hlv (w2.alloc (.cells #[.slice A1 n.items.length c1, .slice A2 n.kids.length c2] 197))
      have hr1' := row_below (row_lower hr1 (base' := w.heap.size) (by have := hbw.size; omega)) hba
      have hr2' := row_below (row_lower hr2 (base' := w.heap.size) (by have := hbw.size; omega)) hba
      have q1 := hX2.cell 1
      simp at q1
      have y0 := hN2.free 0
      have y1 := hN2.free 1
      have z0 := hN2.cell 0
      have z1 := hN2.cell 1
      simp at z0 z1
      have m0 := hM.cell 0
      have m1 := hM.cell 1
      have hMi := hM.inside
      have H2 := Lib.hid (And.intro hbw2 (And.intro hN2 (And.intro hX2 (And.intro hM (And.intro hr1' hr2')))))
      have HN := Lib.hid hn
      clear hr1 hr2 hb2 hba hbw hN1 hbx hop hbw2 hN2 hX2 hM hr1' hr2' hn
      by_cases hnx : nx = 0
      · subst hnx
        by_cases hm : may n lv
        · rw [decide_eq_true hm] at hmy
          have HM := Lib.hid hm
          clear hm
          go_wp2_with fail
          refine hmy.mono ?_
          rintro e w3 ⟨rfl, hb3⟩
          obtain ⟨hbw2, hN2, hX2, hM, hr1, hr2⟩ := H2.out
          have hN3 := hN2.below hb3 hN2.inside
          have hM3 := hM.below hb3 hMi
          have y0 := hN3.free 0
          have y1 := hN3.free 1
          have z0 := hN3.cell 0
          have z1 := hN3.cell 1
          have k0 := hM3.cell 0
          have k1 := hM3.cell 1
          simp at z0 z1 k0 k1
          have H3 := Lib.hid (And.intro (hbw2.trans (hb3.mono hbw2.size)) (And.intro hN3 (And.intro (row_below hr1 hb3) (row_below hr2 hb3))))
          clear hbw2 hN2 hX2 hM hr1 hr2 hN3 hM3 hb3 hmy m0 m1 q1
          go_wp2_with fail
          obtain ⟨hbw, hN3, hr1, hr2⟩ := H3.out
          have hP := hN3.put2 (.slice A1 n.items.length c1) (.slice A2 n.kids.length c2)
          have e0 := hP.cell 0
          have e1 := hP.cell 1
          simp at e0 e1
          have eo : ldO k 0 t lv = some n := by unfold ldO; rw [HN.out]; show (if _ then _ else _) = _; rw [if_pos ⟨rfl, HM.out⟩]
          exact bodyPost_ret (v := .tuple #[.agg #[.slice A1 n.items.length c1, .slice A2 n.kids.length c2], .int .i64 0]) (by simp [results, Tryz.results107, go_sem, e0, e1]) rfl (by unfold LoadTo; rw [HE.out.1, eo]; exact ⟨.inl ⟨A1, c1, A2, c2, n, rfl, rfl, row_put2 hr1 hN3 (by decide), row_put2 hr2 hN3 (by decide)⟩, below_put2 hbw (Nat.le_refl _) _ _⟩)
        · rw [decide_eq_false hm] at hmy
          have HM := Lib.hid hm
          clear hm
          go_wp2_with fail
          refine hmy.mono ?_
          rintro e w3 ⟨rfl, hb3⟩
          obtain ⟨hbw2, hN2, hX2, hM, hr1, hr2⟩ := H2.out
          have hN3 := hN2.below hb3 hN2.inside
          have y0 := hN3.free 0
          have y1 := hN3.free 1
          have z0 := hN3.cell 0
          have z1 := hN3.cell 1
          simp at z0 z1
          have H3 := Lib.hid (And.intro (hbw2.trans (hb3.mono hbw2.size)) hN3)
          clear hbw2 hN2 hX2 hM hr1 hr2 hN3 hb3 hmy m0 m1 q1
          go_wp2_with fail
          obtain ⟨hbw, hN2⟩ := H3.out
          have hP := hN2.put2 (.slice none 0 0) (.slice none 0 0)
          have e0 := hP.cell 0
          have e1 := hP.cell 1
          simp at e0 e1
          have eo : ldO k 0 t lv = none := by unfold ldO; rw [HN.out]; show (if _ then _ else _) = _; rw [if_neg fun c => HM.out c.2]
          exact bodyPost_ret (v := .tuple #[.agg #[.slice none 0 0, .slice none 0 0], .int .i64 15]) (by simp [results, Tryz.results107, go_sem, e0, e1]) rfl (by unfold LoadTo; rw [HE.out.1, HE.out.2, eo]; exact ⟨.inr ⟨rfl, rfl⟩, below_put2 hbw (Nat.le_refl _) _ _⟩)
      · have n1 : (nx != 0) = true := by simpa using hnx
        have HX := Lib.hid hnx
        have H3 := Lib.hid (And.intro H2.out.1 H2.out.2.1)
        clear hnx hmy m0 m1
        go_wp2_with fail
        obtain ⟨hbw, hN2⟩ := H3.out
        have hP := hN2.put2 (.slice none 0 0) (.slice none 0 0)
        have e0 := hP.cell 0
        have e1 := hP.cell 1
        simp at e0 e1
        have eo : ldO k nx t lv = none := by unfold ldO; rw [HN.out]; show (if _ then _ else _) = _; rw [if_neg fun c => HX.out c.1]
        exact bodyPost_ret (v := .tuple #[.agg #[.slice none 0 0, .slice none 0 0], .int .i64 15]) (by simp [results, Tryz.results107, go_sem, e0, e1]) rfl (by unfold LoadTo; rw [HE.out.1, HE.out.2, eo]; exact ⟨.inr ⟨rfl, rfl⟩, below_put2 hbw (Nat.le_refl _) _ _⟩)
    · obtain ⟨hbw, hN1, hbx⟩ := H1.out
      have hN2 := (hN1.below hb2 hN1.inside).alloc (.cells #[.slice none 0 0, .slice none 0 0] 197)
      have hba := alloc_below (w := w2) (.cells #[.slice none 0 0, .slice none 0 0] 197)
      have hbw2 := (hbw.trans (hb2.mono hbw.size)).trans (hba.mono (Nat.le_trans hbw.size hb2.size))
      have y0 := hN2.free 0
      have y1 := hN2.free 1
      have z0 := hN2.cell 0
      have z1 := hN2.cell 1
      simp at z0 z1
      have H3 := Lib.hid (And.intro hbw2 hN2)
      have HN := Lib.hid hn
      clear hbw hN1 hbx hN2 hba hbw2 hb2 hop hn
      go_wp2_with fail
      obtain ⟨hbw, hN2⟩ := H3.out
      have hP := hN2.put2 (.slice none 0 0) (.slice none 0 0)
      have e0 := hP.cell 0
      have e1 := hP.cell 1
      simp at e0 e1
      have eo : ldO k nx t lv = none := by unfold ldO; rw [HN.out]; rfl
      exact bodyPost_ret (v := .tuple #[.agg #[.slice none 0 0, .slice none 0 0], .int .i64 15]) (by simp [results, Tryz.results107, go_sem, e0, e1]) rfl (by unfold LoadTo; rw [HE.out.1, HE.out.2, eo]; exact ⟨.inr ⟨rfl, rfl⟩, below_put2 hbw (Nat.le_refl _) _ _⟩)
  · have hne : rdE s id ≠ 0 := by rcases hr with ⟨h1, _⟩ | ⟨h1, _⟩ <;> rw [h1] <;> decide
    have hrd1 : Calls Tryz.prog 39 #[.pointer (some ⟨p, 0, none⟩), .int .i64 id] (w.alloc (.cells #[.slice none 0 0, .slice none 0 0] 197)) fun e w' => e = .returned (.tuple #[.agg #[.int .i64 0, .int .i64 0, .string ⟨#[]⟩], .int .i64 (rdE s id)]) ∧ Below (w.alloc (.cells #[.slice none 0 0, .slice none 0 0] 197)).heap.size (w.alloc (.cells #[.slice none 0 0, .slice none 0 0] 197)) w' := hrd.mono fun e w' he => by
      rcases he.1 with ⟨h3, _⟩ | ⟨_, h3⟩
      · exact absurd h3 hne
      · exact ⟨h3, he.2⟩
    have eN : ldN s id lv = none := by unfold ldN; rw [if_neg hne]
    have eE : ldE s id lv = rdE s id := by unfold ldE; rw [if_pos hne]
    have HE := Lib.hid (And.intro eN eE)
    clear eN eE
    generalize rdE s id = r at *
    have g4 : (r != 0) = true := by simpa using hne
    clear hrd hr hy hid hne
    go_enter Tryz.func107, Tryz.ntmps107
    go_wp2_with fail
    refine hrd1.mono ?_
    rintro e w1 ⟨rfl, hb1⟩
    obtain ⟨hz, hN⟩ := HB.out
    have hN1 := (hN.below hb1 hN.inside).alloc (.cells #[.int .i64 0, .int .i64 0, .string ⟨#[]⟩] 60)
    have hba := alloc_below (w := w1) (.cells #[.int .i64 0, .int .i64 0, .string ⟨#[]⟩] 60)
    have hbw : Below w.heap.size w (w1.alloc (.cells #[.int .i64 0, .int .i64 0, .string ⟨#[]⟩] 60)) := (hz.trans (hb1.mono hz.size)).trans (hba.mono (Nat.le_trans hz.size hb1.size))
    have y0 := hN1.free 0
    have y1 := hN1.free 1
    have z0 := hN1.cell 0
    have z1 := hN1.cell 1
    simp at z0 z1
    have H1 := Lib.hid (And.intro hbw hN1)
    clear hz hN hN1 hbw hb1 hba hrd1 HB
    go_wp2_with fail
    obtain ⟨hbw, hN2⟩ := H1.out
    have hP := hN2.put2 (.slice none 0 0) (.slice none 0 0)
    have e0 := hP.cell 0
    have e1 := hP.cell 1
    simp at e0 e1
    exact bodyPost_ret (v := .tuple #[.agg #[.slice none 0 0, .slice none 0 0], .int .i64 r]) (by simp [results, Tryz.results107, go_sem, e0, e1]) rfl (by unfold LoadTo; rw [HE.out.1, HE.out.2]; exact ⟨.inr ⟨rfl, rfl⟩, below_put2 hbw (Nat.le_refl _) _ _⟩)
end
end Go.Proofs.YtpoocbkligjgbaaGreatDoor
