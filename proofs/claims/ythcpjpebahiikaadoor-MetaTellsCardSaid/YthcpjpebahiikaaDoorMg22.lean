/-
  A select of one case with a default, in one goroutine, as a law of the walk. Walks over package dev's line of waiting writes: a channel that is asked by a select with a default.
-/
import Derived.Test.YthcpjpebahiikaaDoorMg2
import Derived.Conc.LoneSelect
import Derived.Conc.LoneSelectN
import Derived.LoopN
namespace Go.Proofs.YthcpjpebahiikaaDoor
open Go.RowKit

section
variable {F : List Nat} {a b : World}
theorem Kept.setChan (h : Kept F a b) {k : Nat} (hp : k ∈ F ∨ a.heap.size ≤ k) (cap : Nat) (buf : Array Value) (cl : Bool) (s r : Nat) (tm : Bool) : Kept F a (b.setChan k cap buf cl s r tm) :=
  ⟨h.os, h.tape, h.output, by simpa [World.setChan] using h.size, fun i hi hn => by
    have hne : k ≠ i := fun e => by subst e; exact hp.elim hn (fun h2 => absurd hi (by omega))
    rw [← h.block i hi hn]
    simp [World.setChan, Array.getElem?_setIfInBounds_ne hne]⟩
end

/-! ### A select of one case with a default -/

/-- As 'Code.wp', in the frames of ordinary calls alone. -/
def Wn (P : Program) (c : Code) (Q : Exit → Act → World → Prop) (a : Act) (w : World) : Prop :=
  ∀ b : Frame, b.kind ≠ .early → ∀ (k : List Item) (cs : List Frame), ∃ e a' w', Q e a' w' ∧ Arrives P (lone (b.at a (.code c :: k)) cs w) b k cs e a' w'

/-- n rounds of a loop, at most. -/
def WnRounds (P : Program) (c : Code) (Q : Exit → Act → World → Prop) : Nat → Act → World → Prop
  | 0 => fun _ _ => False
  | n + 1 => Wn P c (Exit.then (WnRounds P c Q n) Q)

section
variable {P : Program} {Q : Exit → Act → World → Prop} {a : Act} {w : World}
theorem wn_of_wp {c : Code} (h : c.wp P Q a w) : Wn P c Q a w := fun b _ k cs => h b k cs

theorem wn_seq {x y : Code} (h : Wn P x (Exit.then (Wn P y Q) Q) a w) : Wn P (Code.seq x y) Q a w := by
  intro b hb k cs
  obtain ⟨e, a1, w1, hq, harr⟩ := h b hb (.code y :: k) cs
  cases e with
  | normal =>
    obtain ⟨e2, a2, w2, hq2, harr2⟩ := hq b hb k cs
    exact ⟨e2, a2, w2, hq2, .of_steps (.head step_seq harr) harr2⟩
  | exit id => exact ⟨_, a1, w1, hq, .of_steps (.one step_seq) (.pass (x := .code y) rfl (fun _ _ => .inl (by simp)) harr)⟩
  | goto l => exact ⟨_, a1, w1, hq, .of_steps (.one step_seq) (.pass (x := .code y) rfl (fun _ _ => .inl (by simp)) harr)⟩
  | ret => exact ⟨_, a1, w1, hq, .of_steps (.one step_seq) (.pass (x := .code y) rfl (fun _ _ => .inl (by simp)) harr)⟩
  | panic ch => exact ⟨_, a1, w1, hq, .of_steps (.one step_seq) (.pass (x := .code y) rfl (fun _ _ => .inl (by simp)) harr)⟩
  | outgrown => exact ⟨_, a1, w1, hq, .of_steps (.one step_seq) (.pass (x := .code y) rfl (fun _ _ => .inl (by simp)) harr)⟩

theorem wn_cond {c : Operand} {x y : Code} {t : Bool} (hc : a.eval c = .bool t) (h : Wn P (if t then x else y) Q a w) : Wn P (Code.cond c x y) Q a w :=
  fun b hb k cs => let ⟨e, a', w', q, r⟩ := h b hb k cs; ⟨e, a', w', q, .of_steps (.one (step_cond hc)) r⟩

theorem wn_block {id : Nat} {c : Code} (h : Wn P c (Exit.inBlock id Q) a w) : Wn P (Code.block id c) Q a w := by
  intro b hb k cs
  obtain ⟨e, a1, w1, hq, harr⟩ := h b hb (.inBlock id :: k) cs
  cases e with
  | normal => exact ⟨.normal, a1, w1, hq, .head step_block (Steps.trans harr (.one step_inBlock))⟩
  | exit id' =>
    by_cases hid : id' = id
    · simp only [Exit.inBlock, hid, if_true] at hq
      exact ⟨.normal, a1, w1, hq, .head step_block (harr k (by simp [exitTo, hid]))⟩
    · simp only [Exit.inBlock, hid, if_false] at hq
      refine ⟨.exit id', a1, w1, hq, fun k' hk => .head step_block (harr k' ?_)⟩
      have h2 : (id == id') = false := by simp; exact fun h => hid h.symm
      simp [exitTo, h2, hk]
  | goto l => exact ⟨_, a1, w1, hq, fun k' hk => .head step_block (harr k' (by simp [gotoIn, hk]))⟩
  | ret => exact ⟨_, a1, w1, hq, .of_steps (.one step_block) harr⟩
  | panic ch => exact ⟨_, a1, w1, hq, .of_steps (.one step_block) harr⟩
  | outgrown => exact ⟨_, a1, w1, hq, .of_steps (b := b) (k := k) (cs := cs) (e := .outgrown) (.one step_block) harr⟩

theorem wn_loop {c : Code} (n : Nat) (h : WnRounds P c Q n a w) : Wn P (Code.loop c) Q a w := by
  intro b hb k cs
  have key : ∀ n a w, WnRounds P c Q n a w → ∃ e a' w', Q e a' w' ∧ Arrives P (lone (b.at a (.code c :: .inLoop c :: k)) cs w) b k cs e a' w' := by
    intro n
    induction n with
    | zero => intro a w h; exact h.elim
    | succ n ih =>
      intro a w h
      obtain ⟨e, a1, w1, hq, harr⟩ := h b hb (.inLoop c :: k) cs
      cases e with
      | normal =>
        obtain ⟨e2, a2, w2, hq2, harr2⟩ := ih a1 w1 hq
        exact ⟨e2, a2, w2, hq2, .of_steps (Steps.trans harr (.one step_inLoop)) harr2⟩
      | exit id => exact ⟨_, a1, w1, hq, .pass (x := .inLoop c) rfl (fun _ _ => .inl (by simp)) harr⟩
      | goto l => exact ⟨_, a1, w1, hq, .pass (x := .inLoop c) rfl (fun _ _ => .inl (by simp)) harr⟩
      | ret => exact ⟨_, a1, w1, hq, .pass (x := .inLoop c) rfl (fun _ _ => .inl (by simp)) harr⟩
      | panic ch => exact ⟨_, a1, w1, hq, .pass (x := .inLoop c) rfl (fun _ _ => .inl (by simp)) harr⟩
      | outgrown => exact ⟨_, a1, w1, hq, .pass (x := .inLoop c) rfl (fun _ _ => .inl (by simp)) harr⟩
  obtain ⟨e, a', w', hq, harr⟩ := key n a w h
  exact ⟨e, a', w', hq, .of_steps (.one step_loop) harr⟩

theorem calls_of_wn {f : FuncId} {fn : Func} {c : Code} {args : Array Value} {R : Ending → World → Prop} (hf : P.funcs[f]? = some fn) (hb : fn.body = some c)
    (h : Wn P c (bodyPost P fn R) { tmps := args ++ Array.replicate (fn.ntmps - args.size) undef, defers := [] } w) : Calls P f args w R := by
  intro cs
  let b : Frame := { (default : Frame) with fn := f, kind := .normal }
  have henter : Frame.enter P f args .normal = b.at { tmps := args ++ Array.replicate (fn.ntmps - args.size) undef, defers := [] } [.code c] := by
    simp [Frame.enter, Frame.at, hf, hb, b]
  obtain ⟨e, a', w', hq, harr⟩ := h b (by simp [b]) [] cs
  rw [← henter] at harr
  cases e with
  | normal =>
    obtain ⟨hd, v, hr, hR⟩ := hq
    exact ⟨.returned v, w', _, hR, Steps.trans harr (.one step_end), rfl, rfl, hd, rfl, fn, hf, hr⟩
  | ret =>
    obtain ⟨hd, v, hr, hR⟩ := hq
    obtain ⟨todo, hs⟩ := harr
    exact ⟨.returned v, w', _, hR, hs, rfl, rfl, hd, rfl, fn, hf, hr⟩
  | panic chain =>
    obtain ⟨hd, hR⟩ := hq
    obtain ⟨todo, hs⟩ := harr
    exact ⟨.panicked chain, w', _, hR, hs, rfl, rfl, hd, fn, hf⟩
  | exit id => exact hq.elim
  | goto l => exact hq.elim
  | outgrown => exact ⟨.outgrown, w', b, hq, harr.resolve_left (by simp [b]), rfl, trivial⟩

/-- A region that begins with a communication that comes to its end by itself. -/
theorem wn_comm {id : Nat} {o : Oper} {l : List Oper} {cases : Array CommCase} {blocking : Bool} {shape : CommShape} {w1 w2 : World} {v : Value} (hg : o.guard = none)
    (hrun : (execOp a.eval o).run P w = .ok (.comm cases blocking shape) w1)
    (hstep : ∀ fr cs es, stepG P true (Conc.G fr cs) w = .comm (Conc.G fr cs) cases blocking shape w1 es → step P (Conc.solo (Conc.G fr cs) w) = .next (Conc.solo (Conc.G (fr.finish v) cs) w2))
    (h : wpList P (o :: l).toArray Q l (a.put o.dst v) w2) : Wn P (Code.region id (o :: l).toArray false) Q a w := by
  intro b hb k cs
  have hr : List.range (o :: l).toArray.size = 0 :: List.range' 1 l.length := by
    rw [List.range_eq_range']
    simp [List.range'_succ]
  have h1 := step_region (P := P) (b := b) (a := a) (k := k) (cs := cs) (w := w) (ops := (o :: l).toArray) (id := id)
  rw [hr] at h1
  have h2 := hstep (b.at a (.inRegion (o :: l).toArray (0 :: List.range' 1 l.length) :: k)) cs _ (Conc.stepG_comm (main := true) (i := 0) (by simp) (by simp [Region.wanted, hg]) hb hrun)
  rw [Frame.finish_at] at h2
  have h3 : wpOps P (o :: l).toArray Q (List.range' 1 l.length) (a.put o.dst v) w2 := by
    rw [wpOps_eq_wpList l 1 (fun j => by simp [Nat.add_comm 1 j])]
    exact h
  obtain ⟨e, a', w', hq, harr⟩ := wp_ops _ _ _ h3 b k cs
  exact ⟨e, a', w', hq, .of_steps (.one h1) (.of_steps (.one h2) harr)⟩
end

end Go.Proofs.YthcpjpebahiikaaDoor

namespace Go.Proofs.YthcpjpebahiikaaDoor
open Go.RowKit Go.Lib

/-- A write that waits, as a value. -/
def wv (x : Int × ByteArray) : Value := .agg #[.int .i64 x.1, .string x.2]
def chanOf (cap : Nat) (l : List (Int × ByteArray)) (s r : Nat) : Obj := .chan cap (l.map wv).toArray false s r false

/-- In cell o of block g, which has the cells cs of type t, stands a line: l waits in it, there is room for cap. -/
structure LineAt (w : World) (g : Nat) (t : TypeId) (cs : Array Value) (o : Nat) (l : List (Int × ByteArray)) (cap : Nat) (ch : Option Nat) : Prop where
  has : Has w g t cs
  cell : cs[o]? = some (.chan ch)
  nil_ : ch = none → l = [] ∧ cap = 0
  full : ∀ c, ch = some c → ∃ s r, w.heap[c]? = some (chanOf cap l s r)
  le : l.length ≤ cap
  wide : ∀ c, ch = some c → 16 ≤ cap

theorem LineAt.ne {w : World} {g : Nat} {t : TypeId} {cs : Array Value} {o : Nat} {l : List (Int × ByteArray)} {cap c : Nat} (h : LineAt w g t cs o l cap (some c)) : g ≠ c := by
  intro e
  subst e
  obtain ⟨s, r, h2⟩ := h.full _ rfl
  have h1 := h.has
  unfold Has at h1
  rw [h1] at h2
  cases h2

/-- A world with one more block, and another content of a channel. -/
theorem LineAt.turned {w w1 : World} {g : Nat} {t : TypeId} {cs : Array Value} {o : Nat} {l l' : List (Int × ByteArray)} {cap c s r : Nat} (h : LineAt w g t cs o l cap (some c)) (hk : Kept [] w w1) (hl : l'.length ≤ cap) :
    LineAt (w1.setChan c cap ((l'.map wv).toArray) false s r false) g t cs o l' cap (some c) ∧ Kept [c] w (w1.setChan c cap ((l'.map wv).toArray) false s r false) := by
  obtain ⟨s0, r0, hc⟩ := h.full _ rfl
  have hcl := (Array.getElem?_eq_some_iff.1 hc).1
  have hk2 : Kept [c] w (w1.setChan c cap ((l'.map wv).toArray) false s r false) := (hk.mono (by simp)).setChan (.inl (by simp)) _ _ _ _ _ _
  refine ⟨⟨h.has.kept hk2 (by simpa using h.ne), h.cell, (fun e => by cases e), fun c' e => ?_, hl, fun _ _ => h.wide c rfl⟩, hk2⟩
  cases e
  exact ⟨s, r, Conc.heap_setChan _ _ _ _ _ _ _ _ (Nat.lt_of_lt_of_le hcl hk.size)⟩
theorem LineAt.kept {w w1 : World} {F : List Nat} {g : Nat} {t : TypeId} {cs : Array Value} {o : Nat} {l : List (Int × ByteArray)} {cap : Nat} {ch : Option Nat} (h : LineAt w g t cs o l cap ch) (hk : Kept F w w1) (hg : g ∉ F) (hc : ∀ c, ch = some c → c ∉ F) :
    LineAt w1 g t cs o l cap ch := by
  refine ⟨h.has.kept hk hg, h.cell, h.nil_, fun c e => ?_, h.le, h.wide⟩
  obtain ⟨s, r, h2⟩ := h.full c e
  exact ⟨s, r, chan_kept h2 hk (hc c e)⟩

set_option maxRecDepth 1000000 in
set_option maxHeartbeats 400000 in
theorem dvtake_some (g : Nat) (t : TypeId) (cs : Array Value) (o : Nat) (x : Int) (d : ByteArray) (l : List (Int × ByteArray)) (cap c : Nat) (w : World) (h : LineAt w g t cs o ((x, d) :: l) cap (some c)) :
    Calls Tryd.prog 68 #[.pointer (some ⟨g, o, none⟩)] w fun e w' => e = .returned (.tuple #[.agg #[.int .i64 x, .string d], .bool true]) ∧ LineAt w' g t cs o l cap (some c) ∧ Kept [c] w w' := by
  obtain ⟨s, r, hc⟩ := h.full _ rfl
  have hcell : w.cell? ⟨g, o, none⟩ = some (.chan (some c)) := (h.has.cell o).trans h.cell
  have hgl := h.has.inside
  have hcl := (Array.getElem?_eq_some_iff.1 hc).1
  have HC := Lib.hid hc
  have H := Lib.hid h
  clear hc h
  refine calls_of_wn Tryd.func68 rfl ?_
  simp only [Tryd.ntmps68, List.size_toArray, List.length_cons, List.length_nil, Nat.reduceAdd, Nat.reduceSub, Array.replicate_succ,
     Array.replicate_zero, List.push_toArray, List.append_toArray, List.nil_append, List.cons_append]
  refine wn_seq (wn_of_wp ?_)
  go_wp2
  refine wn_seq (wn_of_wp ?_)
  go_wp2
  have hc1 : (w.alloc (.cells #[.int .i64 0, .string { data := #[] }] 72)).heap[c]? = some (.chan cap ((((x, d) :: l).map wv).toArray) false s r false) := (Below.heap_alloc w _ c hcl).trans HC.out
  have HC1 := Lib.hid hc1
  clear hc1
  obtain ⟨w2, hw2⟩ : ∃ w2, w2 = (w.alloc (.cells #[.int .i64 0, .string { data := #[] }] 72)).setChan c cap ((l.map wv).toArray) false s (r + 1) false := ⟨_, rfl⟩
  have hk0 : Kept [] w (w.alloc (.cells #[.int .i64 0, .string { data := #[] }] 72)) := (Kept.refl _ _).alloc _
  obtain ⟨hl2, hk2⟩ := H.out.turned (l' := l) (s := s) (r := r + 1) hk0 (by have := H.out.le; simp at this; omega)
  rw [← hw2] at hl2 hk2
  refine wn_seq (wn_comm (cases := #[Conc.rcase c (.agg #[.int .i64 0, .string { data := #[] }])]) (blocking := false) (shape := .select) (w1 := w.alloc (.cells #[.int .i64 0, .string { data := #[] }] 72))
    (v := .tuple #[goInt 0, .bool true, .agg #[.int .i64 x, .string d]]) (w2 := w2) rfl (by simp [go_sem, execOp, Conc.rcase, Act.eval]) ?_ ?_)
  · intro fr cs es hh
    have h9 := Conc.step_lone_select_recv_buf hh HC1.out (by simp)
    have ht : List.take l.length (l.map wv) = l.map wv := List.take_of_length_le (by simp)
    simp [ht] at h9
    rw [h9, hw2]
    rfl
  have hh2 : Has w2 w.heap.size 72 #[.int .i64 0, .string { data := #[] }] := by
    have := Has.made w 72 #[.int .i64 0, .string { data := #[] }]
    unfold Has at this ⊢
    rw [hw2, ← this]
    simp only [World.setChan]
    rw [Array.getElem?_setIfInBounds_ne (show c ≠ w.heap.size by omega)]
  have hs2 : w.heap.size < w2.heap.size := by rw [hw2]; simp [World.setChan]
  clear hw2
  have k0 := hh2.cell 0
  have k1 := hh2.cell 1
  have f0 := hh2.free 0
  have f1 := hh2.free 1
  simp at k0 k1
  have HL := Lib.hid hl2
  have HK := Lib.hid hk2
  clear hl2 hk2 hh2
  go_wp2
  refine wn_block (wn_cond rfl (wn_of_wp ?_))
  go_wp2
  have hkr : Kept [w.heap.size] w2 (((w2.setCell ⟨w.heap.size, 0, none⟩ (.int .i64 x)).setCell ⟨w.heap.size, 1, none⟩ (.string d)).alloc (.cells #[.int .i64 x, .string d] 72)) :=
    (((Kept.refl _ _).setCell (.inl (by simp)) _).setCell (.inl (by simp)) _).alloc _
  refine bodyPost_ret (v := .tuple #[.agg #[.int .i64 x, .string d], .bool true]) (by simp [results, Tryd.results68, go_sem, k0, k1, hs2]) rfl ⟨rfl, ?_, ?_⟩
  · exact HL.out.kept hkr (by simp; omega) (fun c' e => by cases e; simp; omega)
  · exact HK.out.then_ hkr (by simp)

set_option maxRecDepth 1000000 in
set_option maxHeartbeats 400000 in
theorem take_empty (g : Nat) (t : TypeId) (cs : Array Value) (o : Nat) (cap c : Nat) (w : World) (h : LineAt w g t cs o [] cap (some c)) :
    Calls Tryd.prog 68 #[.pointer (some ⟨g, o, none⟩)] w fun e w' => e = .returned (.tuple #[.agg #[.int .i64 0, .string ByteArray.empty], .bool false]) ∧ Kept [] w w' := by
  obtain ⟨s, r, hc⟩ := h.full _ rfl
  have hcell : w.cell? ⟨g, o, none⟩ = some (.chan (some c)) := (h.has.cell o).trans h.cell
  have hgl := h.has.inside
  have hcl := (Array.getElem?_eq_some_iff.1 hc).1
  have HC := Lib.hid hc
  clear hc h
  refine calls_of_wn Tryd.func68 rfl ?_
  simp only [Tryd.ntmps68, List.size_toArray, List.length_cons, List.length_nil, Nat.reduceAdd, Nat.reduceSub, Array.replicate_succ,
     Array.replicate_zero, List.push_toArray, List.append_toArray, List.nil_append, List.cons_append]
  refine wn_seq (wn_of_wp ?_)
  go_wp2
  refine wn_seq (wn_of_wp ?_)
  go_wp2
  have HC1 := Lib.hid ((Below.heap_alloc w (.cells #[.int .i64 0, .string { data := #[] }] 72) c hcl).trans HC.out)
  refine wn_seq (wn_comm (cases := #[Conc.rcase c (.agg #[.int .i64 0, .string { data := #[] }])]) (blocking := false) (shape := .select) (w1 := w.alloc (.cells #[.int .i64 0, .string { data := #[] }] 72))
    (v := .tuple #[goInt (-1), .bool false, .agg #[.int .i64 0, .string { data := #[] }]]) (w2 := w.alloc (.cells #[.int .i64 0, .string { data := #[] }] 72)) rfl (by simp [go_sem, execOp, Conc.rcase, Act.eval]) ?_ ?_)
  · intro fr cs es hh
    exact Conc.step_lone_select_default hh HC1.out
  go_wp2
  refine wn_block (wn_cond rfl (wn_of_wp ?_))
  go_wp2
  refine bodyPost_ret (v := .tuple #[.agg #[.int .i64 0, .string ByteArray.empty], .bool false]) (by simp [results, Tryd.results68, go_sem]; try rfl) rfl ⟨rfl, ?_⟩
  exact (Kept.refl _ _).alloc _

set_option maxRecDepth 1000000 in
set_option maxHeartbeats 400000 in
theorem take_nil (g o : Nat) (w : World) (hgl : g < w.heap.size) (hcell : w.cell? ⟨g, o, none⟩ = some (.chan none)) :
    Calls Tryd.prog 68 #[.pointer (some ⟨g, o, none⟩)] w fun e w' => e = .returned (.tuple #[.agg #[.int .i64 0, .string ByteArray.empty], .bool false]) ∧ Kept [] w w' := by
  refine calls_of_wn Tryd.func68 rfl ?_
  simp only [Tryd.ntmps68, List.size_toArray, List.length_cons, List.length_nil, Nat.reduceAdd, Nat.reduceSub, Array.replicate_succ,
     Array.replicate_zero, List.push_toArray, List.append_toArray, List.nil_append, List.cons_append]
  refine wn_seq (wn_of_wp ?_)
  go_wp2
  refine wn_seq (wn_of_wp ?_)
  go_wp2
  refine wn_seq (wn_comm (cases := #[Conc.rcaseNil (.agg #[.int .i64 0, .string { data := #[] }])]) (blocking := false) (shape := .select) (w1 := w.alloc (.cells #[.int .i64 0, .string { data := #[] }] 72))
    (v := .tuple #[goInt (-1), .bool false, .agg #[.int .i64 0, .string { data := #[] }]]) (w2 := w.alloc (.cells #[.int .i64 0, .string { data := #[] }] 72)) rfl (by simp [go_sem, execOp, Conc.rcaseNil, Act.eval]) ?_ ?_)
  · intro fr cs es hh
    exact Conc.step_lone_select_recv_nil hh
  go_wp2
  refine wn_block (wn_cond rfl (wn_of_wp ?_))
  go_wp2
  refine bodyPost_ret (v := .tuple #[.agg #[.int .i64 0, .string ByteArray.empty], .bool false]) (by simp [results, Tryd.results68, go_sem]; try rfl) rfl ⟨rfl, ?_⟩
  exact (Kept.refl _ _).alloc _

end Go.Proofs.YthcpjpebahiikaaDoor
