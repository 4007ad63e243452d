/-
  Walks over package dev's line of waiting writes: a write is put whatever room there is; a twin is made.
-/
import Derived.Test.YtccajgdfjinjbaaDoorL2
namespace Go.Proofs.YtccajgdfjinjbaaDoor
open Go.RowKit Go.Lib

/-- How much room there is behind a put. -/
def roomed (l : List (Int × ByteArray)) (cap : Nat) : Nat := if l.length < cap then cap else max (2 * cap) 16

/-- What a put comes to. -/
def Puts (g : Nat) (t : TypeId) (cs : Array Value) (o : Nat) (l : List (Int × ByteArray)) (cap : Nat) (ch : Option Nat) (x : Int) (d : ByteArray) (w : World) (e : Ending) (w' : World) : Prop :=
  e = .returned (.tuple #[]) ∧ ∃ c', (ch = some c' ∨ w.heap.size ≤ c') ∧ LineAt w' g t (cs.setIfInBounds o (.chan (some c'))) o (l ++ [(x, d)]) (roomed l cap) (some c') ∧ Kept (g :: ch.toList) w w'

theorem set_same {cs : Array Value} {o : Nat} {v : Value} (h : cs[o]? = some v) : cs.setIfInBounds o v = cs := by
  apply Array.ext_getElem?
  intro i
  rw [Array.getElem?_setIfInBounds]
  split
  · rename_i e
    subst e
    have := (Array.getElem?_eq_some_iff.1 h).1
    simp [this] at h ⊢
    exact h.symm
  · rfl

set_option maxRecDepth 1000000 in
set_option maxHeartbeats 400000 in
/-- The first round finds no room, and widens; the second one puts. -/
theorem put_full (g : Nat) (t : TypeId) (cs : Array Value) (o : Nat) (x : Int) (d : ByteArray) (l : List (Int × ByteArray)) (cap cap' : Nat) (ch : Option Nat) (w : World) (h : LineAt w g t cs o l cap ch) (hfull : cap ≤ l.length) (hlt : l.length < cap')
    (hw : ∀ w1, Kept [] w w1 → Calls Tryd.prog 61 #[.pointer (some ⟨g, o, none⟩)] w1 fun e w' => e = .returned (.tuple #[]) ∧ ∃ c', w1.heap.size ≤ c' ∧ LineAt w' g t (cs.setIfInBounds o (.chan (some c'))) o l cap' (some c') ∧ Kept (g :: ch.toList) w1 w') :
    Calls Tryd.prog 40 #[.pointer (some ⟨g, o, none⟩), .agg #[.int .i64 x, .string d]] w fun e w' => e = .returned (.tuple #[]) ∧ ∃ c', w.heap.size ≤ c' ∧ LineAt w' g t (cs.setIfInBounds o (.chan (some c'))) o (l ++ [(x, d)]) cap' (some c') ∧ Kept (g :: ch.toList) w w' := by
  have hcell : w.cell? ⟨g, o, none⟩ = some (.chan ch) := (h.has.cell o).trans h.cell
  have hgl := h.has.inside
  have hk0 : Kept [] w (w.alloc (.cells #[.int .i64 x, .string d] 76)) := (Kept.refl _ _).alloc _
  have HW := Lib.hid (hw _ hk0)
  have H := Lib.hid h
  have H1 := Lib.hid (h.kept hk0 (by simp) (by simp))
  have HK0 := Lib.hid hk0
  have hm := Has.made w 76 #[.int .i64 x, .string d]
  have HM := Lib.hid hm
  clear h hw hk0 hm
  refine calls_of_wn Tryd.func40 rfl ?_
  simp only [Tryd.ntmps40, List.size_toArray, List.length_cons, List.length_nil, Nat.reduceAdd, Nat.reduceSub, Array.replicate_succ,
     Array.replicate_zero, List.push_toArray, List.append_toArray, List.nil_append, List.cons_append]
  refine wn_seq (wn_of_wp ?_)
  go_wp2
  refine wn_block (wn_loop 2 ?_)
  refine wn_block (wn_seq (wn_of_wp ?_))
  go_wp2
  rcases ch with _ | c
  · refine wn_seq (wn_comm (cases := #[Conc.scaseNil (.agg #[.int .i64 x, .string d]) (.agg #[.int .i64 0, .string { data := #[] }])]) (blocking := false) (shape := .select) (w1 := w.alloc (.cells #[.int .i64 x, .string d] 76))
      (v := .tuple #[goInt (-1), .bool false]) (w2 := w.alloc (.cells #[.int .i64 x, .string d] 76)) rfl (by simp [go_sem, execOp, Conc.scaseNil, Act.eval]) (fun fr cs es hh => Conc.step_lone_select_send_nil hh) ?_)
    go_wp2
    refine wn_block (wn_cond rfl (wn_of_wp ?_))
    go_wp2_with fail
    refine HW.out.mono ?_
    rintro e w1 ⟨rfl, c', hc', hl1, hk1⟩
    have hs1 := hk1.size
    simp only [World.size_alloc] at hs1 hc'
    have hm1 := HM.out.kept hk1 (by simp; omega)
    have HL := Lib.hid hl1
    have HK := Lib.hid hk1
    have HM1 := Lib.hid hm1
    clear hl1 hk1 hm1
    go_wp2
    have hl1 := HL.out
    have hm1 := HM1.out
    have hcell1 : w1.cell? ⟨g, o, none⟩ = some (.chan (some c')) := (hl1.has.cell o).trans hl1.cell
    have m0 := hm1.cell 0
    have m1 := hm1.cell 1
    simp at m0 m1
    obtain ⟨s2, r2, hc2⟩ := hl1.full _ rfl
    have HC2 := Lib.hid hc2
    clear hl1 hm1 hc2
    refine wn_block (wn_seq (wn_of_wp ?_))
    go_wp2
    have HF := Lib.hid (HL.out.turned (l' := l ++ [(x, d)]) (s := s2 + 1) (r := r2) (Kept.refl [] w1) (by simp; omega))
    obtain ⟨w2, hw2⟩ : ∃ w2, w2 = w1.setChan c' cap' (((l ++ [(x, d)]).map wv).toArray) false (s2 + 1) r2 false := ⟨_, rfl⟩
    refine wn_seq (wn_comm (cases := #[Conc.scase c' (.agg #[.int .i64 x, .string d]) (.agg #[.int .i64 0, .string { data := #[] }])]) (blocking := false) (shape := .select) (w1 := w1)
      (v := .tuple #[goInt 0, .bool false]) (w2 := w2) rfl (by simp [go_sem, execOp, Conc.scase, Act.eval]) ?_ ?_)
    · intro fr cs es hh
      have h9 := Conc.step_lone_select_send_room hh HC2.out (by simpa using hlt)
      rw [h9, hw2]
      simp [wv]
    have HF2 := Lib.hid HF.out
    rw [← hw2] at HF2
    clear hw2
    go_wp2
    refine wn_block (wn_cond rfl (wn_of_wp ?_))
    go_wp2
    exact bodyPost_ret (results_none rfl _ _ _) rfl ⟨rfl, c', by omega, HF2.out.1, ((HK0.out.mono (by simp)).trans HK.out).then_ HF2.out.2 (by simp; omega)⟩
  · have hcl : c < w.heap.size := by
      obtain ⟨s1, r1, h1⟩ := H.out.full c rfl
      exact (Array.getElem?_eq_some_iff.1 h1).1
    refine wn_seq (wn_comm (cases := #[Conc.scase c (.agg #[.int .i64 x, .string d]) (.agg #[.int .i64 0, .string { data := #[] }])]) (blocking := false) (shape := .select) (w1 := w.alloc (.cells #[.int .i64 x, .string d] 76))
      (v := .tuple #[goInt (-1), .bool false]) (w2 := w.alloc (.cells #[.int .i64 x, .string d] 76)) rfl (by simp [go_sem, execOp, Conc.scase, Act.eval]) (fun fr cs es hh => ?_) ?_)
    · obtain ⟨s1, r1, h1⟩ := H1.out.full c rfl
      exact Conc.step_lone_select_send_full hh h1 (by simpa using hfull)
    go_wp2
    refine wn_block (wn_cond rfl (wn_of_wp ?_))
    go_wp2_with fail
    refine HW.out.mono ?_
    rintro e w1 ⟨rfl, c', hc', hl1, hk1⟩
    have hs1 := hk1.size
    simp only [World.size_alloc] at hs1 hc'
    have hm1 := HM.out.kept hk1 (by simp; omega)
    have HL := Lib.hid hl1
    have HK := Lib.hid hk1
    have HM1 := Lib.hid hm1
    clear hl1 hk1 hm1
    go_wp2
    have hl1 := HL.out
    have hm1 := HM1.out
    have hcell1 : w1.cell? ⟨g, o, none⟩ = some (.chan (some c')) := (hl1.has.cell o).trans hl1.cell
    have m0 := hm1.cell 0
    have m1 := hm1.cell 1
    simp at m0 m1
    obtain ⟨s2, r2, hc2⟩ := hl1.full _ rfl
    have HC2 := Lib.hid hc2
    clear hl1 hm1 hc2
    refine wn_block (wn_seq (wn_of_wp ?_))
    go_wp2
    have HF := Lib.hid (HL.out.turned (l' := l ++ [(x, d)]) (s := s2 + 1) (r := r2) (Kept.refl [] w1) (by simp; omega))
    obtain ⟨w2, hw2⟩ : ∃ w2, w2 = w1.setChan c' cap' (((l ++ [(x, d)]).map wv).toArray) false (s2 + 1) r2 false := ⟨_, rfl⟩
    refine wn_seq (wn_comm (cases := #[Conc.scase c' (.agg #[.int .i64 x, .string d]) (.agg #[.int .i64 0, .string { data := #[] }])]) (blocking := false) (shape := .select) (w1 := w1)
      (v := .tuple #[goInt 0, .bool false]) (w2 := w2) rfl (by simp [go_sem, execOp, Conc.scase, Act.eval]) ?_ ?_)
    · intro fr cs es hh
      have h9 := Conc.step_lone_select_send_room hh HC2.out (by simpa using hlt)
      rw [h9, hw2]
      simp [wv]
    have HF2 := Lib.hid HF.out
    rw [← hw2] at HF2
    clear hw2
    go_wp2
    refine wn_block (wn_cond rfl (wn_of_wp ?_))
    go_wp2
    exact bodyPost_ret (results_none rfl _ _ _) rfl ⟨rfl, c', by omega, HF2.out.1, ((HK0.out.mono (by simp)).trans HK.out).then_ HF2.out.2 (by simp; omega)⟩

theorem LineAt.cap_zero {w : World} {g : Nat} {t : TypeId} {cs : Array Value} {o : Nat} {l : List (Int × ByteArray)} {cap : Nat} (h : LineAt w g t cs o l cap none) : l = [] ∧ cap = 0 := h.nil_ rfl

theorem put_any (g : Nat) (t : TypeId) (cs : Array Value) (o : Nat) (x : Int) (d : ByteArray) (l : List (Int × ByteArray)) (cap : Nat) (ch : Option Nat) (w : World) (h : LineAt w g t cs o l cap ch) (hcap : cap ≤ 100000000000) :
    Calls Tryd.prog 40 #[.pointer (some ⟨g, o, none⟩), .agg #[.int .i64 x, .string d]] w (Puts g t cs o l cap ch x d w) := by
  by_cases hr : l.length < cap
  · cases ch with
    | none => obtain ⟨rfl, rfl⟩ := h.nil_ rfl; simp at hr
    | some c =>
      refine (put_room g t cs o x d l cap c w h hr).mono ?_
      rintro e w1 ⟨rfl, hl1, hk1⟩
      refine ⟨rfl, c, .inl rfl, ?_, hk1.mono (by simp)⟩
      rw [set_same h.cell]
      unfold roomed
      rw [if_pos hr]
      exact hl1
  · have hle := h.le
    cases ch with
    | none =>
      obtain ⟨rfl, rfl⟩ := h.nil_ rfl
      refine (put_full g t cs o x d [] 0 16 none w h (by simp) (by simp) (fun w1 hk => ?_)).mono ?_
      · refine (widen_nil g t cs o w1 (h.kept hk (by simp) (by simp))).mono ?_
        rintro e w2 ⟨rfl, c', h1, h2, h3⟩
        exact ⟨rfl, c', h1, h2, h3.mono (by simp)⟩
      · rintro e w2 ⟨rfl, c', h1, h2, h3⟩
        exact ⟨rfl, c', .inr h1, h2, h3⟩
    | some c =>
      have h16 := h.wide c rfl
      refine (put_full g t cs o x d l cap (2 * cap) (some c) w h (by omega) (by omega) (fun w1 hk => ?_)).mono ?_
      · refine (widen_some g t cs o l cap c w1 (h.kept hk (by simp) (by simp)) (by intro e; subst e; simp at hr; omega) hcap).mono ?_
        rintro e w2 ⟨rfl, c', h1, h2, h3⟩
        exact ⟨rfl, c', h1, h2, h3.mono (by simp)⟩
      · rintro e w2 ⟨rfl, c', h1, h2, h3⟩
        refine ⟨rfl, c', .inr h1, ?_, h3⟩
        unfold roomed
        rw [if_neg hr, Nat.max_eq_left (by omega)]
        exact h2
theorem LineAt.chlt {w : World} {g : Nat} {t : TypeId} {cs : Array Value} {o : Nat} {l : List (Int × ByteArray)} {cap c : Nat} (h : LineAt w g t cs o l cap (some c)) : c < w.heap.size := by
  obtain ⟨s1, r1, h1⟩ := h.full c rfl
  exact (Array.getElem?_eq_some_iff.1 h1).1
end Go.Proofs.YtccajgdfjinjbaaDoor
