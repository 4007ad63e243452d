/-
  Walks over the statements' book, of numbers: lists with room behind them, in which a mark stands; are two lists alike? append of what came in. A region whose order is open, whose last operations write where others have read: what the reads lean on is asked behind every operation that stands ahead of the first writer, which waits, by whatever road, for all that is not taken yet.
-/
import Derived.Test.YtjimjemogbphaaaGreatMg3
import Derived.Laws.AppendOwnNone
import Derived.Laws.OwnMore
import Derived.Deep.QuietTactic
import Derived.BigQuiet
import Derived.Test.YtjimjemogbphaaaGreatMg1
import Derived.OrdersHeld
import Derived.Deep.MidRow
namespace Go.Proofs.YtjimjemogbphaaaGreat
open Go.RowKit

theorem below_drewB {B : Nat} {w wr : World} (h : Below B w wr) (k : Nat) : Below B w (wr.drewN k) := h.trans ⟨rfl, rfl, rfl, Nat.le_refl _, fun _ _ => rfl⟩

/-- v is a list of the values vals with room behind them, and there the mark. -/
def Lent (w : World) (base : Nat) (vals : List Value) (mark v : Value) : Prop :=
  ∃ g cap, v = .slice (some ⟨g, 0, none⟩) vals.length cap ∧ base ≤ g ∧ g < w.heap.size ∧ vals.length + 1 ≤ cap ∧ cap ≤ maxLen ∧ ∀ j u, (vals ++ [mark])[j]? = some u → w.cell? ⟨g, j, none⟩ = some u

theorem Lent.below {w w' : World} {base B : Nat} {vals : List Value} {mark v : Value} (h : Lent w base vals mark v) (hb : Below B w w') (hB : w.heap.size ≤ B) : Lent w' base vals mark v := by
  obtain ⟨g, cap, rfl, h1, h2, h3, h4, h5⟩ := h
  exact ⟨g, cap, rfl, h1, Nat.lt_of_lt_of_le h2 hb.size, h3, h4, fun j u hu => (hb.cell (p := ⟨g, j, none⟩) (Nat.lt_of_lt_of_le h2 hB)).trans (h5 j u hu)⟩
theorem Lent.reads {w : World} {base : Nat} {vals : List Value} {mark v : Value} (h : Lent w base vals mark v) : Reads1 w w.heap.size v vals := by
  obtain ⟨g, cap, rfl, h1, h2, h3, h4, h5⟩ := h
  refine ⟨_, _, rfl, fun _ => ⟨g, 0, rfl, h2, fun j u hu => ?_⟩⟩
  rw [Nat.zero_add]
  refine h5 j u ?_
  rw [List.getElem?_append_left]
  · exact hu
  · exact (List.getElem?_eq_some_iff.1 hu).1

section
variable {ops : Array Oper} {rest : List Oper} {o : Oper} {a : Act} {Q : Exit → Act → World → Prop}
/-- append(nil, v...) -/
theorem append_copy (hgd : o.guard = none) (s x : Operand) (t e : TypeId) (z : Value) (nb : Nat) (ht : Tryz.prog.underlying t = some (.slice e)) (hinfo : (Tryz.prog.info? e).map (fun i => (i.zero, i.size, i.bytes)) = some (some z, 1, nb)) (hzs : z.cells.size = 1) (hnb : nb ≤ 16)
    (ho : o.op = .call { callee := .builtin .append, args := #[s, x], argTypes := #[t, t] }) (base : Nat) (wr : World) (hs : a.eval s = .slice none 0 0) (B : Nat) (v : Value) (hx : a.eval x = v) (vals : List Value) (hr : Reads1 wr B v vals)
    (hform : ∀ n c, v = .slice none n c → n = 0 ∧ c = 0) (h1 : ∀ u ∈ vals, u.oneCell' = true) (hlen : vals.length ≤ 1000000) (hbase : base ≤ wr.heap.size)
    (h : ∀ v' w', w'.ownsRow base e 1 v' vals.length vals → Below base wr w' → wpList Tryz.prog ops Q rest (a.put o.dst v') w') : wpList Tryz.prog ops Q (o :: rest) a wr := by
  obtain ⟨i0, hi, hz0, hz1, hz2⟩ := info_parts hinfo
  obtain ⟨A, c, rfl, hc⟩ := hr
  have hnil := World.ownsRow_nil wr base e 1
  have hmul : vals.length * nb ≤ 16000000 := by
    have := Nat.mul_le_mul hlen hnb
    omega
  cases A with
  | none =>
    obtain ⟨h0, rfl⟩ := hform _ _ rfl
    obtain rfl : vals = [] := List.eq_nil_of_length_eq_zero h0
    exact wpList_append_own_none hgd s x t ho base e i0 1 ht hi _ 0 [] hs hnil hx (h _ _ hnil (Below.refl _ _))
  | some ad =>
    have hcells : ∀ j u, vals[j]? = some u → wr.cell? (ad.add j) = some u := by
      intro j u hu
      have hj := (List.getElem?_eq_some_iff.1 hu).1
      obtain ⟨b, off, hA, _, hcell⟩ := hc (by omega)
      obtain rfl := Option.some.inj hA
      rw [Go.WideShapes.add_plain]
      exact hcell j u hu
    refine wpList_append_own _ hgd s x t ho base e i0 z 1 nb ht hi hz0 hz1 hz2 hzs (by decide) _ 0 [] hs hnil ad vals.length c vals hx (by simp) hcells h1 (by unfold maxLen; omega) (by rw [Nat.zero_add]; omega) hbase ?_
    intro v' w' h2 h3 _
    rw [Nat.zero_add, List.nil_append] at h2
    exact h v' w' h2 ((Below.refl base wr).grown h3 hbase (fun k hk => by cases hk))

/-- append(v, mark) -/
theorem append_mark (hgd : o.guard = none) (s x : Operand) (t e : TypeId) (z : Value) (nb : Nat) (ht : Tryz.prog.underlying t = some (.slice e)) (hinfo : (Tryz.prog.info? e).map (fun i => (i.zero, i.size, i.bytes)) = some (some z, 1, nb)) (hzs : z.cells.size = 1) (hnb : nb ≤ 16)
    (ho : o.op = .call { callee := .builtin .append, args := #[s, x], argTypes := #[t, t] }) (base : Nat) (wr : World) (v : Value) (hs : a.eval s = v) (vals : List Value) (hown : wr.ownsRow base e 1 v vals.length vals) (mark : Value)
    (hx : a.eval x = .slice (some ⟨wr.heap.size, 0, none⟩) 1 1) (h1 : mark.oneCell' = true) (hlen : vals.length ≤ 1000000) (hbase : base ≤ wr.heap.size)
    (h : ∀ g cap w', Lent w' base vals mark (.slice (some ⟨g, 0, none⟩) vals.length cap) → vals.length + 1 ≤ cap → Below base wr w' → wpList Tryz.prog ops Q rest (a.put o.dst (.slice (some ⟨g, 0, none⟩) (vals.length + 1) cap)) w') :
    wpList Tryz.prog ops Q (o :: rest) a (wr.alloc (.cells #[mark] e)) := by
  obtain ⟨i0, hi, hz0, hz1, hz2⟩ := info_parts hinfo
  have hmul : (vals.length + 1) * nb ≤ 17000000 := by
    have := Nat.mul_le_mul (show vals.length + 1 ≤ 1000001 by omega) hnb
    omega
  have hra := World.ownsRow.alloc hown (.cells #[mark] e)
  refine wpList_append_own _ hgd s x t ho base e i0 z 1 nb ht hi hz0 hz1 hz2 hzs (by decide) _ _ _ hs hra ⟨wr.heap.size, 0, none⟩ 1 1 [mark] hx rfl
    (cell_one_new _ _ _) (by intro u hu; simp at hu; subst hu; exact h1) (by unfold maxLen; omega) (by omega) (by simp; omega) ?_
  intro v' w' h2 h3 _
  have hB : Below base wr w' := ((Below.refl base wr).alloc hbase _).trans ((Below.refl _ _).grown h3 (by simp; omega) (fun k hk => (World.ownsRow.lt hra k hk).1))
  rcases h2.2 with ⟨_, h0⟩ | ⟨g, cap, cur, rfl, hb, hg, hnc, hcm, hcs, htake⟩
  · omega
  · refine h g cap w' ⟨g, cap, rfl, hb, lt_of_block hg, hnc, hcm, fun j u hu => ?_⟩ hnc hB
    have hc := World.ownsRow.cells h2 rfl j u hu
    rw [Go.WideShapes.add_plain, Nat.zero_add] at hc
    exact hc
end


section
variable {ops : Array Oper} {rest : List Oper} {o : Oper} {a : Act} {Q : Exit → Act → World → Prop}
/-- append(row, v...) -/
theorem append_reads (hgd : o.guard = none) (s x : Operand) (t e : TypeId) (z : Value) (nb : Nat) (ht : Tryz.prog.underlying t = some (.slice e)) (hinfo : (Tryz.prog.info? e).map (fun i => (i.zero, i.size, i.bytes)) = some (some z, 1, nb)) (hzs : z.cells.size = 1) (hnb : nb ≤ 16)
    (ho : o.op = .call { callee := .builtin .append, args := #[s, x], argTypes := #[t, t] }) (base : Nat) (wr : World) (d : Value) (n : Nat) (xs : List Value) (hs : a.eval s = d) (hown : wr.ownsRow base e 1 d n xs) (B : Nat) (v : Value) (hx : a.eval x = v) (vals : List Value) (hr : Reads1 wr B v vals)
    (hform : ∀ n c, v = .slice none n c → n = 0 ∧ c = 0) (h1 : ∀ u ∈ vals, u.oneCell' = true) (hlen : n + vals.length ≤ 1000000) (hbase : base ≤ wr.heap.size)
    (h : ∀ v' w', w'.ownsRow base e 1 v' (n + vals.length) (xs ++ vals) → Below base wr w' → wpList Tryz.prog ops Q rest (a.put o.dst v') w') : wpList Tryz.prog ops Q (o :: rest) a wr := by
  obtain ⟨i0, hi, hz0, hz1, hz2⟩ := info_parts hinfo
  obtain ⟨A, c, rfl, hc⟩ := hr
  have hmul : (n + vals.length) * nb ≤ 16000000 := by
    have := Nat.mul_le_mul hlen hnb
    omega
  cases A with
  | none =>
    obtain ⟨h0, rfl⟩ := hform _ _ rfl
    obtain rfl : vals = [] := List.eq_nil_of_length_eq_zero h0
    exact wpList_append_own_none hgd s x t ho base e i0 1 ht hi _ n xs hs hown hx (h _ _ (by simpa using hown) (Below.refl _ _))
  | some ad =>
    have hcells : ∀ j u, vals[j]? = some u → wr.cell? (ad.add j) = some u := by
      intro j u hu
      have hj := (List.getElem?_eq_some_iff.1 hu).1
      obtain ⟨b, off, hA, _, hcell⟩ := hc (by omega)
      obtain rfl := Option.some.inj hA
      rw [Go.WideShapes.add_plain]
      exact hcell j u hu
    refine wpList_append_own _ hgd s x t ho base e i0 z 1 nb ht hi hz0 hz1 hz2 hzs (by decide) _ n xs hs hown ad vals.length c vals hx (by simp) hcells h1 (by unfold maxLen; omega) (by omega) hbase ?_
    intro v' w' h2 h3 _
    exact h v' w' h2 ((Below.refl base wr).grown h3 hbase (fun k hk => (World.ownsRow.lt hown k hk).1))
end

theorem row_reads1 {base : Nat} {e : TypeId} {w : World} {v : Value} {n : Nat} {xs : List Value} (h : w.ownsRow base e 1 v n xs) : Reads1 w w.heap.size v xs := by
  have hl : xs.length = n := by simpa using h.1
  rcases h.2 with ⟨rfl, rfl⟩ | ⟨g, cap, cur, rfl, _, hg, _⟩
  · exact ⟨none, 0, by rw [hl], fun h0 => by omega⟩
  · refine ⟨some ⟨g, 0, none⟩, cap, by rw [hl], fun _ => ⟨g, 0, rfl, lt_of_block hg, fun j u hu => ?_⟩⟩
    have hj : j < n * 1 := by have := (List.getElem?_eq_some_iff.1 hu).1; omega
    rw [Nat.zero_add, h.cellAt j hj, hu]
theorem int_one {l : List Int} : ∀ u ∈ l.map (Value.int .i64), u.oneCell' = true := by
  intro u hu
  obtain ⟨x, _, rfl⟩ := List.mem_map.1 hu
  rfl

def markI : Value := .int .i64 (-77)

set_option maxRecDepth 1000000 in
set_option maxHeartbeats 400000 in
theorem lentInts_any (v : Value) (vals : List Value) (w : World) (hr : Reads1 w w.heap.size v vals) (hform : ∀ n c, v = .slice none n c → n = 0 ∧ c = 0) (h1 : ∀ u ∈ vals, u.oneCell' = true) (hl : vals.length ≤ 1000000) :
    Calls Tryz.prog 6 #[v] w fun e w' => ∃ v', e = .returned v' ∧ Lent w' w.heap.size vals markI v' ∧ Below w.heap.size w w' := by
  have hv : ∃ A c, v = .slice A vals.length c := by obtain ⟨A, c, h, _⟩ := hr; exact ⟨A, c, h⟩
  obtain ⟨A, c, rfl⟩ := hv
  go_enter Tryz.func6, Tryz.ntmps6
  go_wp2_with (at_builtin; first | (refine append_copy rfl _ _ 22 3 (.int .i64 0) 8 Tryz.underlying22 Tryz.infoInt rfl (by decide) rfl w.heap.size w rfl w.heap.size (.slice A vals.length c) rfl vals hr hform h1 hl (Nat.le_refl _) ?_; intro v1 w1 hown hb1) | (refine append_mark rfl _ _ 22 3 (.int .i64 0) 8 Tryz.underlying22 Tryz.infoInt rfl (by decide) rfl w.heap.size w1 v1 rfl vals hown markI rfl rfl hl hb1.size ?_; intro g cap w2 hlent hcap hb2))
  go_ret
  exact ⟨_, rfl, hlent, hb1.trans hb2⟩

set_option maxRecDepth 1000000 in
set_option maxHeartbeats 800000 in
theorem sameInts_any (v1 v2 : Value) (l : List Int) (w : World) (hr1 : Reads1 w w.heap.size v1 (l.map (Value.int .i64))) (hr2 : Reads1 w w.heap.size v2 (l.map (Value.int .i64))) (hl : l.length ≤ 1000000) :
    Calls Tryz.prog 25 #[v1, v2] w fun e w' => e = .returned (.bool true) ∧ Below w.heap.size w w' := by
  obtain ⟨A1, c1, rfl, hc1⟩ := hr1
  obtain ⟨A2, c2, rfl, hc2⟩ := hr2
  simp only [List.length_map] at hc1 hc2 ⊢
  go_enter Tryz.func25, Tryz.ntmps25
  go_wp2
  go_loopw [5] (fun i wr => ∃ k : Nat, k ≤ l.length ∧ i = .int .i64 k ∧ Below w.heap.size w wr) (fun i _ => l.length - (RowKit.intOf i).toNat)
  case atStart => exact ⟨0, Nat.zero_le _, rfl, Below.refl _ _⟩
  case round =>
    obtain ⟨k, hk, rfl, hbl⟩ := hrel
    have hbs := hbl.size
    by_cases hlt : k < l.length
    · obtain ⟨b1, o1, rfl, hbb1, hcell1⟩ := hc1 (by omega)
      obtain ⟨b2, o2, rfl, hbb2, hcell2⟩ := hc2 (by omega)
      have hck1 : wr.cell? ⟨b1, o1 + k, none⟩ = some (.int .i64 l[k]) := (hbl.cell (p := ⟨b1, o1 + k, none⟩) hbb1).trans (hcell1 k _ (by simp [hlt]))
      have hck2 : wr.cell? ⟨b2, o2 + k, none⟩ = some (.int .i64 l[k]) := (hbl.cell (p := ⟨b2, o2 + k, none⟩) hbb2).trans (hcell2 k _ (by simp [hlt]))
      generalize l[k] = x at *
      clear hc1 hc2 hcell1 hcell2
      have hlt' : (k : Int) < (l.length : Int) := by omega
      go_wp2_with fail
      go_quiet (fail)
      go_wp2
      exact ⟨⟨k + 1, by omega, by go_num, below_drewB hbl nq⟩, by simp [RowKit.intOf]; omega⟩
    · go_wp2
      go_ret
      exact ⟨rfl, hbl⟩
set_option maxRecDepth 1000000 in
set_option maxHeartbeats 800000 in
theorem staysInts_any (base : Nat) (v1 v2 : Value) (l : List Int) (w : World) (hr1 : Lent w base (l.map (Value.int .i64)) markI v1) (hr2 : Reads1 w w.heap.size v2 (l.map (Value.int .i64))) (hl : l.length ≤ 1000000) :
    Calls Tryz.prog 9 #[v1, v2] w fun e w' => e = .returned (.bool true) ∧ Below w.heap.size w w' := by
  have hsame := sameInts_any v1 v2 l w hr1.reads hr2 hl
  obtain ⟨g, cap, rfl, h1, h2, h3, h4, h5⟩ := hr1
  simp only [List.length_map] at hsame h3 ⊢
  have hck : w.cell? ⟨g, l.length, none⟩ = some markI := h5 l.length _ (by simp)
  clear h5 hr2
  go_enter Tryz.func9, Tryz.ntmps9
  go_wp2_with fail
  refine hsame.mono ?_
  rintro e w1 ⟨rfl, hb1⟩
  have hck1 : w1.cell? ⟨g, l.length, none⟩ = some (.int .i64 (-77)) := (hb1.cell (p := ⟨g, l.length, none⟩) h2).trans hck
  have hlc : (l.length : Int) + 1 ≤ (cap : Int) := by omega
  go_wp2
  go_ret
  exact ⟨rfl, hb1⟩

end Go.Proofs.YtjimjemogbphaaaGreat

namespace Go.Proofs.YtjimjemogbphaaaGreat
open Go.RowKit

section
variable {P : Program} {ops : Array Oper} {Q : Exit → Act → World → Prop} {md : Region.Mode} {S : World → Prop} {last : Nat}

/-- Whatever order is picked from here on; S holds behind every operation ahead of 'last'. -/
def Till (P : Program) (md : Region.Mode) (ops : Array Oper) (Q : Exit → Act → World → Prop) (S : World → Prop) (last : Nat) : Nat → Array Bool → Act → World → Prop
  | 0, seen, a, w => Region.ready md ops seen = [] ∧ Q .normal a w
  | n + 1, seen, a, w => (Region.ready md ops seen = [] → Q .normal a w) ∧ ∀ i ∈ Region.ready md ops seen, wpOp P ops Q i (fun a' w' => (i < last → S w') ∧ Till P md ops Q S last n (seen.setIfInBounds i true) a' w') a w

theorem till_any : ∀ (n : Nat) (seen : Array Bool) (a : Act) (w : World), Till P md ops Q S last n seen a w → wpAny P md ops Q n seen a w
  | 0, _, _, _, h => h
  | n + 1, _, _, _, h => ⟨h.1, fun i hi => wpOp_mono (fun a' w' hh => till_any n _ a' w' hh.2) (h.2 i hi)⟩

/-- What is asked may change on the way: from nothing to something. -/
theorem till_turn (last' : Nat) : ∀ (n : Nat) (seen : Array Bool) (a : Act) (w : World), Till P md ops Q S last n seen a w → Till P md ops Q (fun _ => True) last' n seen a w
  | 0, _, _, _, h => h
  | n + 1, _, _, _, h => ⟨h.1, fun i hi => wpOp_mono (fun a' w' hh => ⟨fun _ => trivial, till_turn last' n _ a' w' hh.2⟩) (h.2 i hi)⟩

/-- All that what is seen waits for is seen. -/
def Closed (md : Region.Mode) (ops : Array Oper) (seen : Array Bool) : Prop := ∀ j oj, ops[j]? = some oj → seen.getD j false = true → ∀ e ∈ oj.after, Region.binds md e = true → seen.getD e.on false = true
def closedB (md : Region.Mode) (ops : Array Oper) (seen : Array Bool) : Bool :=
  (List.range ops.size).all fun j => !seen.getD j false || ((ops[j]?).map fun o => o.after.all fun e => !Region.binds md e || seen.getD e.on false).getD true

theorem closedB_spec {seen : Array Bool} (h : closedB md ops seen = true) : Closed md ops seen := by
  intro j oj hj hs e he hb
  have hlt : j < ops.size := (Array.getElem?_eq_some_iff.1 hj).1
  have h1 := List.all_eq_true.1 h j (List.mem_range.2 hlt)
  rw [hs, hj] at h1
  simp only [Bool.not_true, Bool.false_or, Option.map_some, Option.getD_some] at h1
  have h2 := Array.all_eq_true_iff_forall_mem.1 h1 e he
  rw [hb] at h2
  simpa using h2

/-- The operations that wait for i, by whatever road. -/
def waiters (md : Region.Mode) (ops : Array Oper) (i : Nat) : List Nat :=
  (List.range ops.size).foldl (fun acc j => if ((ops[j]?).map fun o => o.after.any fun e => Region.binds md e && acc.contains e.on).getD false then j :: acc else acc) [i]

theorem waiters_spec {seen : Array Bool} {i : Nat} (hc : Closed md ops seen) (hi : seen.getD i false = false) :
    ∀ j ∈ waiters md ops i, seen.getD j false = false ∧ (j = i ∨ ∃ oj, ops[j]? = some oj ∧ ∃ e ∈ oj.after, Region.binds md e = true ∧ seen.getD e.on false = false) := by
  unfold waiters
  generalize List.range ops.size = L
  have key : ∀ (L : List Nat) (acc : List Nat), (∀ j ∈ acc, seen.getD j false = false ∧ (j = i ∨ ∃ oj, ops[j]? = some oj ∧ ∃ e ∈ oj.after, Region.binds md e = true ∧ seen.getD e.on false = false)) →
      ∀ j ∈ L.foldl (fun acc j => if ((ops[j]?).map fun o => o.after.any fun e => Region.binds md e && acc.contains e.on).getD false then j :: acc else acc) acc,
        seen.getD j false = false ∧ (j = i ∨ ∃ oj, ops[j]? = some oj ∧ ∃ e ∈ oj.after, Region.binds md e = true ∧ seen.getD e.on false = false) := by
    intro L
    induction L with
    | nil => intro acc h j hj; exact h j hj
    | cons x r ih =>
      intro acc h
      rw [List.foldl_cons]
      refine ih _ ?_
      split
      · rename_i hx
        intro j hj
        rcases List.mem_cons.1 hj with rfl | hj
        · cases hox : ops[j]? with
          | none => rw [hox] at hx; simp at hx
          | some oj =>
            rw [hox] at hx
            simp only [Option.map_some, Option.getD_some, Array.any_eq_true', Bool.and_eq_true] at hx
            obtain ⟨e, he, hb, hacc⟩ := hx
            have hun := (h e.on (by simpa using hacc)).1
            refine ⟨?_, .inr ⟨oj, rfl, e, he, hb, hun⟩⟩
            cases hs : seen.getD j false with
            | false => rfl
            | true => have := hc j oj hox hs e he hb; rw [this] at hun; cases hun
        · exact h j hj
      · exact h
  refine key L [i] ?_
  intro j hj
  obtain rfl : j = i := by simpa using hj
  exact ⟨hi, .inl rfl⟩

/-- Do all from 'last' on wait for i? -/
def blocksB (md : Region.Mode) (ops : Array Oper) (last i : Nat) : Bool := (List.range ops.size).all fun j => decide (j < last) || (decide (j ≠ i) && (waiters md ops i).contains j)

theorem not_ready_last {seen : Array Bool} {i j : Nat} (hb : blocksB md ops last i = true) (hc : Closed md ops seen) (hi : seen.getD i true = false) (hj : j ∈ Region.ready md ops seen) : j < last := by
  obtain ⟨_, oj, hoj, hall⟩ := mem_ready.1 hj
  have hlt : j < ops.size := (Array.getElem?_eq_some_iff.1 hoj).1
  have h1 := List.all_eq_true.1 hb j (List.mem_range.2 hlt)
  simp only [Bool.or_eq_true, decide_eq_true_eq, Bool.and_eq_true] at h1
  rcases h1 with h1 | ⟨hne, hw⟩
  · exact h1
  · have hi' : seen.getD i false = false := by
      rcases Nat.lt_or_ge i seen.size with h | h
      · simp [h] at hi ⊢; exact hi
      · simp [Array.getElem?_eq_none h]
    obtain ⟨_, h2⟩ := waiters_spec hc hi' j (by simpa using hw)
    rcases h2 with rfl | ⟨oj', hoj', e, he, hbe, hun⟩
    · exact absurd rfl hne
    · rw [hoj] at hoj'
      obtain rfl := Option.some.inj hoj'
      have := hall e he hbe
      rw [this] at hun
      cases hun

theorem Closed.set {seen : Array Bool} {j : Nat} (hc : Closed md ops seen) (hj : j ∈ Region.ready md ops seen) : Closed md ops (seen.setIfInBounds j true) := by
  obtain ⟨_, oj, hoj, hall⟩ := mem_ready.1 hj
  have up : ∀ k, seen.getD k false = true → (seen.setIfInBounds j true).getD k false = true := by
    intro k hk
    by_cases h : j = k
    · subst h
      rcases Nat.lt_or_ge j seen.size with h | h
      · simp [h]
      · simp [Array.getElem?_eq_none h] at hk
    · rw [getD_set_ne false h]; exact hk
  intro k ok hok hk e he hb
  by_cases h : j = k
  · subst h
    rw [hoj] at hok
    obtain rfl := Option.some.inj hok
    exact up _ (hall e he hb)
  · rw [getD_set_ne false h] at hk
    exact up _ (hc k ok hok hk e he hb)

theorem till_take {i : Nat} {oi : Oper} {v : Value} {n : Nat} {seen : Array Bool} {a : Act} {w : World} (hi : ops[i]? = some oi) (hs : Region.noSelect ops = true) (hf : Region.free md ops seen i = true)
    (hr : (Region.ready md ops seen).contains i = true) (hcl : closedB md ops seen = true) (hw : blocksB md ops last i = true) (hQ : ∀ c a w, Q (.panic c) (a.put oi.dst v) w → Q (.panic c) a w) (hy : YieldsIf P ops S oi v a) (hS : S w)
    (h : Till P md ops Q S last n (seen.setIfInBounds i true) (a.put oi.dst v) w) : Till P md ops Q S last (n + 1) seen a w := by
  have hsel := Region.noSelect_spec hs
  have hil : i < ops.size := (Array.getElem?_eq_some_iff.1 hi).1
  have key : ∀ (n : Nat) (seen : Array Bool) (a : Act) (w : World), (∀ j oj, ops[j]? = some oj → j ≠ i → seen.getD j true = false → (∀ e ∈ oj.after, Region.binds md e = true → e.on ≠ i) → oi.apart ops oj = true) →
      i ∈ Region.ready md ops seen → Closed md ops seen → YieldsIf P ops S oi v a → S w → Till P md ops Q S last n (seen.setIfInBounds i true) (a.put oi.dst v) w → Till P md ops Q S last (n + 1) seen a w := by
    intro n
    induction n with
    | zero =>
      intro seen a w _ hr _ hy hS H
      refine ⟨(fun h0 => by rw [h0] at hr; cases hr), fun j hj => ?_⟩
      by_cases hji : j = i
      · subst hji
        exact hy.wpOp hi hS ⟨fun _ => hS, H⟩
      · have h1 := ready_mono hj hji
        rw [H.1] at h1
        cases h1
    | succ n ih =>
      intro seen a w hap hr hc hy hS H
      refine ⟨(fun h0 => by rw [h0] at hr; cases hr), fun j hj => ?_⟩
      by_cases hji : j = i
      · subst hji
        exact hy.wpOp hi hS ⟨fun _ => hS, H⟩
      · have hun := (mem_ready.1 hr).1
        have hjl : j < last := not_ready_last hw hc hun hj
        obtain ⟨hjun, oj, hoj, hall⟩ := mem_ready.1 hj
        have hno : ∀ e ∈ oj.after, Region.binds md e = true → e.on ≠ i := fun e he hb heq => by
          have h1 := hall e he hb
          rw [heq] at h1
          rcases Nat.lt_or_ge i seen.size with hlt | hge
          · simp [hlt] at hun h1
            rw [hun] at h1
            cases h1
          · simp [Array.getElem?_eq_none hge] at h1
        have h2 := wpOp_putIf hoj (hap j oj hoj hji hjun hno) (fun cs b => hsel i oi cs b hi) (fun cs b => hsel j oj cs b hoj) hQ hy (H.2 j (ready_mono hj hji))
        refine wpOp_mono (fun a' w' h3 => ⟨h3.2.1, ih (seen.setIfInBounds j true) a' w' (fun k ok hk hki hu hn => hap k ok hk hki ?_ hn) (ready_mono hr (Ne.symm hji)) (hc.set hj) h3.1 (h3.2.1 hjl) ?_⟩) h2
        · by_cases hjk : j = k
          · subst hjk
            exact hjun
          · rw [getD_set_ne true hjk] at hu
            exact hu
        · rw [Array.setIfInBounds_comm _ _ hji]
          exact h3.2.2
  exact key n seen a w (Region.free_spec hi hf) (by simpa using hr) (closedB_spec hcl) hy hS h

/-- The same, its slot named. -/
theorem till_takeAt (d : Nat) {i : Nat} {oi : Oper} {v : Value} {n : Nat} {seen : Array Bool} {a : Act} {w : World} (hi : ops[i]? = some oi) (hd : oi.dst = some d) (hs : Region.noSelect ops = true) (hf : Region.free md ops seen i = true)
    (hr : (Region.ready md ops seen).contains i = true) (hcl : closedB md ops seen = true) (hw : blocksB md ops last i = true) (hQ : ∀ c a w, Q (.panic c) (a.put (some d) v) w → Q (.panic c) a w) (hy : YieldsIf P ops S oi v a) (hS : S w)
    (h : Till P md ops Q S last n (seen.setIfInBounds i true) ⟨a.tmps.setIfInBounds d v, a.defers⟩ w) : Till P md ops Q S last (n + 1) seen a w :=
  till_take hi hs hf hr hcl hw (by rw [hd]; exact hQ) hy hS (by rw [hd]; exact h)

/-- The one operation that may come up. -/
theorem till_one {i : Nat} {o : Oper} {n : Nat} {seen : Array Bool} {a : Act} {w : World} (hr : Region.ready md ops seen = [i]) (hi : ops[i]? = some o) (hg : o.guard = none)
    (h : ∀ K : Act → World → Prop, (∀ a' w', ((i < last → S w') ∧ Till P md ops Q S last n (seen.setIfInBounds i true) a' w') → K a' w') → o.wp P a w K Q) : Till P md ops Q S last (n + 1) seen a w := by
  refine ⟨(fun h0 => by rw [hr] at h0; cases h0), fun j hj => ?_⟩
  rw [hr] at hj
  obtain rfl : j = i := by simpa using hj
  unfold wpOp
  simp only [hi]
  rw [if_pos (by simp [Region.wanted, hg])]
  exact .inl (h _ fun _ _ hh => hh)

theorem till_done {seen : Array Bool} {a : Act} {w : World} (hr : Region.ready md ops seen = []) (h : Q .normal a w) : ∀ n, Till P md ops Q S last n seen a w
  | 0 => ⟨hr, h⟩
  | _ + 1 => ⟨fun _ => h, by rw [hr]; simp⟩

theorem wp_region_tills (S : World → Prop) (last : Nat) {id : Nat} {a : Act} {w : World} (hm : P.follows .mixedOrders = true) (h : Till P .any ops Q S last ops.size (Array.replicate ops.size false) a w.drew) : (Code.region id ops true).wp P Q a w :=
  wp_region_any hm (till_any _ _ _ _ h)

/-- A load of several cells. -/
theorem yields_mid {op : Oper} {a : Act} (hg : op.guard = none) (ty : TypeId) (x : Operand) (ho : op.op = .load ty x)
    (b o : Nat) (hx : a.eval x = .pointer (some ⟨b, o, none⟩)) (cs : List Value) (d : TypeDesc) (hS : ∀ w, S w → w.rangeAt b o cs)
    (hu : P.underlying ty = some d) (hd : d.isRow = true) (hi : (P.info? ty).map (·.size) = some cs.length) : YieldsIf P ops S op (.agg cs.toArray) a :=
  yieldsIf_load_mid (by simp [Region.wanted, hg]) ty x ho b o hx cs d hS hu hd hi
end
end Go.Proofs.YtjimjemogbphaaaGreat
