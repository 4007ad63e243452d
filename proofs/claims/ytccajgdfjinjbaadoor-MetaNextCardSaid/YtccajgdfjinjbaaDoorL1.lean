/-
  Walks over package dev's line of waiting writes: a channel that is asked by a select with a default.
-/
import Derived.Test.YtccajgdfjinjbaaDoorK1
namespace Go.Proofs.YtccajgdfjinjbaaDoor
open Go.RowKit Go.Lib

/-- A write that waits, as a value. -/
def wv (x : Int × ByteArray) : Value := .agg #[.int .i64 x.1, .string x.2]
def chanOf (cap : Nat) (l : List (Int × ByteArray)) (s r : Nat) : Obj := .chan cap (l.map wv).toArray false s r false

/-- In cell o of block g, which has the cells cs of type t, stands a line: l waits in it, there is room for cap. -/
structure LineAt (w : World) (g : Nat) (t : TypeId) (cs : Array Value) (o : Nat) (l : List (Int × ByteArray)) (cap : Nat) (ch : Option Nat) : Prop where
  has : Has w g t cs
  cell : cs[o]? = some (.chan ch)
  nil_ : ch = none → l = [] ∧ cap = 0
  full : ∀ c, ch = some c → ∃ s r, w.heap[c]? = some (chanOf cap l s r)
  le : l.length ≤ cap
  wide : ∀ c, ch = some c → 16 ≤ cap

theorem LineAt.ne {w : World} {g : Nat} {t : TypeId} {cs : Array Value} {o : Nat} {l : List (Int × ByteArray)} {cap c : Nat} (h : LineAt w g t cs o l cap (some c)) : g ≠ c := by
  intro e
  subst e
  obtain ⟨s, r, h2⟩ := h.full _ rfl
  have h1 := h.has
  unfold Has at h1
  rw [h1] at h2
  cases h2

/-- A world with one more block, and another content of a channel. -/
theorem LineAt.turned {w w1 : World} {g : Nat} {t : TypeId} {cs : Array Value} {o : Nat} {l l' : List (Int × ByteArray)} {cap c s r : Nat} (h : LineAt w g t cs o l cap (some c)) (hk : Kept [] w w1) (hl : l'.length ≤ cap) :
    LineAt (w1.setChan c cap ((l'.map wv).toArray) false s r false) g t cs o l' cap (some c) ∧ Kept [c] w (w1.setChan c cap ((l'.map wv).toArray) false s r false) := by
  obtain ⟨s0, r0, hc⟩ := h.full _ rfl
  have hcl := (Array.getElem?_eq_some_iff.1 hc).1
  have hk2 : Kept [c] w (w1.setChan c cap ((l'.map wv).toArray) false s r false) := (hk.mono (by simp)).setChan (.inl (by simp)) _ _ _ _ _ _
  refine ⟨⟨h.has.kept hk2 (by simpa using h.ne), h.cell, (fun e => by cases e), fun c' e => ?_, hl, fun _ _ => h.wide c rfl⟩, hk2⟩
  cases e
  exact ⟨s, r, Conc.heap_setChan _ _ _ _ _ _ _ _ (Nat.lt_of_lt_of_le hcl hk.size)⟩
theorem LineAt.kept {w w1 : World} {F : List Nat} {g : Nat} {t : TypeId} {cs : Array Value} {o : Nat} {l : List (Int × ByteArray)} {cap : Nat} {ch : Option Nat} (h : LineAt w g t cs o l cap ch) (hk : Kept F w w1) (hg : g ∉ F) (hc : ∀ c, ch = some c → c ∉ F) :
    LineAt w1 g t cs o l cap ch := by
  refine ⟨h.has.kept hk hg, h.cell, h.nil_, fun c e => ?_, h.le, h.wide⟩
  obtain ⟨s, r, h2⟩ := h.full c e
  exact ⟨s, r, chan_kept h2 hk (hc c e)⟩

set_option maxRecDepth 1000000 in
set_option maxHeartbeats 400000 in
theorem take_some (g : Nat) (t : TypeId) (cs : Array Value) (o : Nat) (x : Int) (d : ByteArray) (l : List (Int × ByteArray)) (cap c : Nat) (w : World) (h : LineAt w g t cs o ((x, d) :: l) cap (some c)) :
    Calls Tryd.prog 63 #[.pointer (some ⟨g, o, none⟩)] w fun e w' => e = .returned (.tuple #[.agg #[.int .i64 x, .string d], .bool true]) ∧ LineAt w' g t cs o l cap (some c) ∧ Kept [c] w w' := by
  obtain ⟨s, r, hc⟩ := h.full _ rfl
  have hcell : w.cell? ⟨g, o, none⟩ = some (.chan (some c)) := (h.has.cell o).trans h.cell
  have hgl := h.has.inside
  have hcl := (Array.getElem?_eq_some_iff.1 hc).1
  have HC := Lib.hid hc
  have H := Lib.hid h
  clear hc h
  refine calls_of_wn Tryd.func63 rfl ?_
  simp only [Tryd.ntmps63, List.size_toArray, List.length_cons, List.length_nil, Nat.reduceAdd, Nat.reduceSub, Array.replicate_succ,
     Array.replicate_zero, List.push_toArray, List.append_toArray, List.nil_append, List.cons_append]
  refine wn_seq (wn_of_wp ?_)
  go_wp2
  refine wn_seq (wn_of_wp ?_)
  go_wp2
  have hc1 : (w.alloc (.cells #[.int .i64 0, .string { data := #[] }] 76)).heap[c]? = some (.chan cap ((((x, d) :: l).map wv).toArray) false s r false) := (Below.heap_alloc w _ c hcl).trans HC.out
  have HC1 := Lib.hid hc1
  clear hc1
  obtain ⟨w2, hw2⟩ : ∃ w2, w2 = (w.alloc (.cells #[.int .i64 0, .string { data := #[] }] 76)).setChan c cap ((l.map wv).toArray) false s (r + 1) false := ⟨_, rfl⟩
  have hk0 : Kept [] w (w.alloc (.cells #[.int .i64 0, .string { data := #[] }] 76)) := (Kept.refl _ _).alloc _
  obtain ⟨hl2, hk2⟩ := H.out.turned (l' := l) (s := s) (r := r + 1) hk0 (by have := H.out.le; simp at this; omega)
  rw [← hw2] at hl2 hk2
  refine wn_seq (wn_comm (cases := #[Conc.rcase c (.agg #[.int .i64 0, .string { data := #[] }])]) (blocking := false) (shape := .select) (w1 := w.alloc (.cells #[.int .i64 0, .string { data := #[] }] 76))
    (v := .tuple #[goInt 0, .bool true, .agg #[.int .i64 x, .string d]]) (w2 := w2) rfl (by simp [go_sem, execOp, Conc.rcase, Act.eval]) ?_ ?_)
  · intro fr cs es hh
    have h9 := Conc.step_lone_select_recv_buf hh HC1.out (by simp)
    have ht : List.take l.length (l.map wv) = l.map wv := List.take_of_length_le (by simp)
    simp [ht] at h9
    rw [h9, hw2]
    rfl
  have hh2 : Has w2 w.heap.size 76 #[.int .i64 0, .string { data := #[] }] := by
    have := Has.made w 76 #[.int .i64 0, .string { data := #[] }]
    unfold Has at this ⊢
    rw [hw2, ← this]
    simp only [World.setChan]
    rw [Array.getElem?_setIfInBounds_ne (show c ≠ w.heap.size by omega)]
  have hs2 : w.heap.size < w2.heap.size := by rw [hw2]; simp [World.setChan]
  clear hw2
  have k0 := hh2.cell 0
  have k1 := hh2.cell 1
  have f0 := hh2.free 0
  have f1 := hh2.free 1
  simp at k0 k1
  have HL := Lib.hid hl2
  have HK := Lib.hid hk2
  clear hl2 hk2 hh2
  go_wp2
  refine wn_block (wn_cond rfl (wn_of_wp ?_))
  go_wp2
  have hkr : Kept [w.heap.size] w2 (((w2.setCell ⟨w.heap.size, 0, none⟩ (.int .i64 x)).setCell ⟨w.heap.size, 1, none⟩ (.string d)).alloc (.cells #[.int .i64 x, .string d] 76)) :=
    (((Kept.refl _ _).setCell (.inl (by simp)) _).setCell (.inl (by simp)) _).alloc _
  refine bodyPost_ret (v := .tuple #[.agg #[.int .i64 x, .string d], .bool true]) (by simp [results, Tryd.results63, go_sem, k0, k1, hs2]) rfl ⟨rfl, ?_, ?_⟩
  · exact HL.out.kept hkr (by simp; omega) (fun c' e => by cases e; simp; omega)
  · exact HK.out.then_ hkr (by simp)

set_option maxRecDepth 1000000 in
set_option maxHeartbeats 400000 in
theorem take_empty (g : Nat) (t : TypeId) (cs : Array Value) (o : Nat) (cap c : Nat) (w : World) (h : LineAt w g t cs o [] cap (some c)) :
    Calls Tryd.prog 63 #[.pointer (some ⟨g, o, none⟩)] w fun e w' => e = .returned (.tuple #[.agg #[.int .i64 0, .string ByteArray.empty], .bool false]) ∧ Kept [] w w' := by
  obtain ⟨s, r, hc⟩ := h.full _ rfl
  have hcell : w.cell? ⟨g, o, none⟩ = some (.chan (some c)) := (h.has.cell o).trans h.cell
  have hgl := h.has.inside
  have hcl := (Array.getElem?_eq_some_iff.1 hc).1
  have HC := Lib.hid hc
  clear hc h
  refine calls_of_wn Tryd.func63 rfl ?_
  simp only [Tryd.ntmps63, List.size_toArray, List.length_cons, List.length_nil, Nat.reduceAdd, Nat.reduceSub, Array.replicate_succ,
     Array.replicate_zero, List.push_toArray, List.append_toArray, List.nil_append, List.cons_append]
  refine wn_seq (wn_of_wp ?_)
  go_wp2
  refine wn_seq (wn_of_wp ?_)
  go_wp2
  have HC1 := Lib.hid ((Below.heap_alloc w (.cells #[.int .i64 0, .string { data := #[] }] 76) c hcl).trans HC.out)
  refine wn_seq (wn_comm (cases := #[Conc.rcase c (.agg #[.int .i64 0, .string { data := #[] }])]) (blocking := false) (shape := .select) (w1 := w.alloc (.cells #[.int .i64 0, .string { data := #[] }] 76))
    (v := .tuple #[goInt (-1), .bool false, .agg #[.int .i64 0, .string { data := #[] }]]) (w2 := w.alloc (.cells #[.int .i64 0, .string { data := #[] }] 76)) rfl (by simp [go_sem, execOp, Conc.rcase, Act.eval]) ?_ ?_)
  · intro fr cs es hh
    exact Conc.step_lone_select_default hh HC1.out
  go_wp2
  refine wn_block (wn_cond rfl (wn_of_wp ?_))
  go_wp2
  refine bodyPost_ret (v := .tuple #[.agg #[.int .i64 0, .string ByteArray.empty], .bool false]) (by simp [results, Tryd.results63, go_sem]; try rfl) rfl ⟨rfl, ?_⟩
  exact (Kept.refl _ _).alloc _

set_option maxRecDepth 1000000 in
set_option maxHeartbeats 400000 in
theorem take_nil (g o : Nat) (w : World) (hgl : g < w.heap.size) (hcell : w.cell? ⟨g, o, none⟩ = some (.chan none)) :
    Calls Tryd.prog 63 #[.pointer (some ⟨g, o, none⟩)] w fun e w' => e = .returned (.tuple #[.agg #[.int .i64 0, .string ByteArray.empty], .bool false]) ∧ Kept [] w w' := by
  refine calls_of_wn Tryd.func63 rfl ?_
  simp only [Tryd.ntmps63, List.size_toArray, List.length_cons, List.length_nil, Nat.reduceAdd, Nat.reduceSub, Array.replicate_succ,
     Array.replicate_zero, List.push_toArray, List.append_toArray, List.nil_append, List.cons_append]
  refine wn_seq (wn_of_wp ?_)
  go_wp2
  refine wn_seq (wn_of_wp ?_)
  go_wp2
  refine wn_seq (wn_comm (cases := #[Conc.rcaseNil (.agg #[.int .i64 0, .string { data := #[] }])]) (blocking := false) (shape := .select) (w1 := w.alloc (.cells #[.int .i64 0, .string { data := #[] }] 76))
    (v := .tuple #[goInt (-1), .bool false, .agg #[.int .i64 0, .string { data := #[] }]]) (w2 := w.alloc (.cells #[.int .i64 0, .string { data := #[] }] 76)) rfl (by simp [go_sem, execOp, Conc.rcaseNil, Act.eval]) ?_ ?_)
  · intro fr cs es hh
    exact Conc.step_lone_select_recv_nil hh
  go_wp2
  refine wn_block (wn_cond rfl (wn_of_wp ?_))
  go_wp2
  refine bodyPost_ret (v := .tuple #[.agg #[.int .i64 0, .string ByteArray.empty], .bool false]) (by simp [results, Tryd.results63, go_sem]; try rfl) rfl ⟨rfl, ?_⟩
  exact (Kept.refl _ _).alloc _

end Go.Proofs.YtccajgdfjinjbaaDoor
