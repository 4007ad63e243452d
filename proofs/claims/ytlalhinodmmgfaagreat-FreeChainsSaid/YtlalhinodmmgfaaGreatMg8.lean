/-
  Walks over the statements' book, of numbers: lists with room behind them, in which a mark stands; are two lists alike? append of what came in.
-/
import Derived.Test.YtlalhinodmmgfaaGreatMg3
import Derived.Test.YtlalhinodmmgfaaGreatMg7
import Derived.Laws.AppendOwnNone
import Derived.Laws.OwnMore
import Derived.Deep.QuietTactic
import Derived.BigQuiet
namespace Go.Proofs.YtlalhinodmmgfaaGreat
open Go.RowKit

theorem below_drewB {B : Nat} {w wr : World} (h : Below B w wr) (k : Nat) : Below B w (wr.drewN k) := h.trans ⟨rfl, rfl, rfl, Nat.le_refl _, fun _ _ => rfl⟩

/-- v is a list of the values vals with room behind them, and there the mark. -/
def Lent (w : World) (base : Nat) (vals : List Value) (mark v : Value) : Prop :=
  ∃ g cap, v = .slice (some ⟨g, 0, none⟩) vals.length cap ∧ base ≤ g ∧ g < w.heap.size ∧ vals.length + 1 ≤ cap ∧ cap ≤ maxLen ∧ ∀ j u, (vals ++ [mark])[j]? = some u → w.cell? ⟨g, j, none⟩ = some u

theorem Lent.below {w w' : World} {base B : Nat} {vals : List Value} {mark v : Value} (h : Lent w base vals mark v) (hb : Below B w w') (hB : w.heap.size ≤ B) : Lent w' base vals mark v := by
  obtain ⟨g, cap, rfl, h1, h2, h3, h4, h5⟩ := h
  exact ⟨g, cap, rfl, h1, Nat.lt_of_lt_of_le h2 hb.size, h3, h4, fun j u hu => (hb.cell (p := ⟨g, j, none⟩) (Nat.lt_of_lt_of_le h2 hB)).trans (h5 j u hu)⟩
theorem Lent.reads {w : World} {base : Nat} {vals : List Value} {mark v : Value} (h : Lent w base vals mark v) : Reads1 w w.heap.size v vals := by
  obtain ⟨g, cap, rfl, h1, h2, h3, h4, h5⟩ := h
  refine ⟨_, _, rfl, fun _ => ⟨g, 0, rfl, h2, fun j u hu => ?_⟩⟩
  rw [Nat.zero_add]
  refine h5 j u ?_
  rw [List.getElem?_append_left]
  · exact hu
  · exact (List.getElem?_eq_some_iff.1 hu).1

section
variable {ops : Array Oper} {rest : List Oper} {o : Oper} {a : Act} {Q : Exit → Act → World → Prop}
/-- append(nil, v...) -/
theorem append_copy (hgd : o.guard = none) (s x : Operand) (t e : TypeId) (z : Value) (nb : Nat) (ht : Tryz.prog.underlying t = some (.slice e)) (hinfo : (Tryz.prog.info? e).map (fun i => (i.zero, i.size, i.bytes)) = some (some z, 1, nb)) (hzs : z.cells.size = 1) (hnb : nb ≤ 16)
    (ho : o.op = .call { callee := .builtin .append, args := #[s, x], argTypes := #[t, t] }) (base : Nat) (wr : World) (hs : a.eval s = .slice none 0 0) (B : Nat) (v : Value) (hx : a.eval x = v) (vals : List Value) (hr : Reads1 wr B v vals)
    (hform : ∀ n c, v = .slice none n c → n = 0 ∧ c = 0) (h1 : ∀ u ∈ vals, u.oneCell' = true) (hlen : vals.length ≤ 1000000) (hbase : base ≤ wr.heap.size)
    (h : ∀ v' w', w'.ownsRow base e 1 v' vals.length vals → Below base wr w' → wpList Tryz.prog ops Q rest (a.put o.dst v') w') : wpList Tryz.prog ops Q (o :: rest) a wr := by
  obtain ⟨i0, hi, hz0, hz1, hz2⟩ := info_parts hinfo
  obtain ⟨A, c, rfl, hc⟩ := hr
  have hnil := World.ownsRow_nil wr base e 1
  have hmul : vals.length * nb ≤ 16000000 := by
    have := Nat.mul_le_mul hlen hnb
    omega
  cases A with
  | none =>
    obtain ⟨h0, rfl⟩ := hform _ _ rfl
    obtain rfl : vals = [] := List.eq_nil_of_length_eq_zero h0
    exact wpList_append_own_none hgd s x t ho base e i0 1 ht hi _ 0 [] hs hnil hx (h _ _ hnil (Below.refl _ _))
  | some ad =>
    have hcells : ∀ j u, vals[j]? = some u → wr.cell? (ad.add j) = some u := by
      intro j u hu
      have hj := (List.getElem?_eq_some_iff.1 hu).1
      obtain ⟨b, off, hA, _, hcell⟩ := hc (by omega)
      obtain rfl := Option.some.inj hA
      rw [Go.WideShapes.add_plain]
      exact hcell j u hu
    refine wpList_append_own _ hgd s x t ho base e i0 z 1 nb ht hi hz0 hz1 hz2 hzs (by decide) _ 0 [] hs hnil ad vals.length c vals hx (by simp) hcells h1 (by unfold maxLen; omega) (by rw [Nat.zero_add]; omega) hbase ?_
    intro v' w' h2 h3 _
    rw [Nat.zero_add, List.nil_append] at h2
    exact h v' w' h2 ((Below.refl base wr).grown h3 hbase (fun k hk => by cases hk))

/-- append(v, mark) -/
theorem append_mark (hgd : o.guard = none) (s x : Operand) (t e : TypeId) (z : Value) (nb : Nat) (ht : Tryz.prog.underlying t = some (.slice e)) (hinfo : (Tryz.prog.info? e).map (fun i => (i.zero, i.size, i.bytes)) = some (some z, 1, nb)) (hzs : z.cells.size = 1) (hnb : nb ≤ 16)
    (ho : o.op = .call { callee := .builtin .append, args := #[s, x], argTypes := #[t, t] }) (base : Nat) (wr : World) (v : Value) (hs : a.eval s = v) (vals : List Value) (hown : wr.ownsRow base e 1 v vals.length vals) (mark : Value)
    (hx : a.eval x = .slice (some ⟨wr.heap.size, 0, none⟩) 1 1) (h1 : mark.oneCell' = true) (hlen : vals.length ≤ 1000000) (hbase : base ≤ wr.heap.size)
    (h : ∀ g cap w', Lent w' base vals mark (.slice (some ⟨g, 0, none⟩) vals.length cap) → vals.length + 1 ≤ cap → Below base wr w' → wpList Tryz.prog ops Q rest (a.put o.dst (.slice (some ⟨g, 0, none⟩) (vals.length + 1) cap)) w') :
    wpList Tryz.prog ops Q (o :: rest) a (wr.alloc (.cells #[mark] e)) := by
  obtain ⟨i0, hi, hz0, hz1, hz2⟩ := info_parts hinfo
  have hmul : (vals.length + 1) * nb ≤ 17000000 := by
    have := Nat.mul_le_mul (show vals.length + 1 ≤ 1000001 by omega) hnb
    omega
  have hra := World.ownsRow.alloc hown (.cells #[mark] e)
  refine wpList_append_own _ hgd s x t ho base e i0 z 1 nb ht hi hz0 hz1 hz2 hzs (by decide) _ _ _ hs hra ⟨wr.heap.size, 0, none⟩ 1 1 [mark] hx rfl
    (cell_one_new _ _ _) (by intro u hu; simp at hu; subst hu; exact h1) (by unfold maxLen; omega) (by omega) (by simp; omega) ?_
  intro v' w' h2 h3 _
  have hB : Below base wr w' := ((Below.refl base wr).alloc hbase _).trans ((Below.refl _ _).grown h3 (by simp; omega) (fun k hk => (World.ownsRow.lt hra k hk).1))
  rcases h2.2 with ⟨_, h0⟩ | ⟨g, cap, cur, rfl, hb, hg, hnc, hcm, hcs, htake⟩
  · omega
  · refine h g cap w' ⟨g, cap, rfl, hb, lt_of_block hg, hnc, hcm, fun j u hu => ?_⟩ hnc hB
    have hc := World.ownsRow.cells h2 rfl j u hu
    rw [Go.WideShapes.add_plain, Nat.zero_add] at hc
    exact hc
end


section
variable {ops : Array Oper} {rest : List Oper} {o : Oper} {a : Act} {Q : Exit → Act → World → Prop}
/-- append(row, v...) -/
theorem append_reads (hgd : o.guard = none) (s x : Operand) (t e : TypeId) (z : Value) (nb : Nat) (ht : Tryz.prog.underlying t = some (.slice e)) (hinfo : (Tryz.prog.info? e).map (fun i => (i.zero, i.size, i.bytes)) = some (some z, 1, nb)) (hzs : z.cells.size = 1) (hnb : nb ≤ 16)
    (ho : o.op = .call { callee := .builtin .append, args := #[s, x], argTypes := #[t, t] }) (base : Nat) (wr : World) (d : Value) (n : Nat) (xs : List Value) (hs : a.eval s = d) (hown : wr.ownsRow base e 1 d n xs) (B : Nat) (v : Value) (hx : a.eval x = v) (vals : List Value) (hr : Reads1 wr B v vals)
    (hform : ∀ n c, v = .slice none n c → n = 0 ∧ c = 0) (h1 : ∀ u ∈ vals, u.oneCell' = true) (hlen : n + vals.length ≤ 1000000) (hbase : base ≤ wr.heap.size)
    (h : ∀ v' w', w'.ownsRow base e 1 v' (n + vals.length) (xs ++ vals) → Below base wr w' → wpList Tryz.prog ops Q rest (a.put o.dst v') w') : wpList Tryz.prog ops Q (o :: rest) a wr := by
  obtain ⟨i0, hi, hz0, hz1, hz2⟩ := info_parts hinfo
  obtain ⟨A, c, rfl, hc⟩ := hr
  have hmul : (n + vals.length) * nb ≤ 16000000 := by
    have := Nat.mul_le_mul hlen hnb
    omega
  cases A with
  | none =>
    obtain ⟨h0, rfl⟩ := hform _ _ rfl
    obtain rfl : vals = [] := List.eq_nil_of_length_eq_zero h0
    exact wpList_append_own_none hgd s x t ho base e i0 1 ht hi _ n xs hs hown hx (h _ _ (by simpa using hown) (Below.refl _ _))
  | some ad =>
    have hcells : ∀ j u, vals[j]? = some u → wr.cell? (ad.add j) = some u := by
      intro j u hu
      have hj := (List.getElem?_eq_some_iff.1 hu).1
      obtain ⟨b, off, hA, _, hcell⟩ := hc (by omega)
      obtain rfl := Option.some.inj hA
      rw [Go.WideShapes.add_plain]
      exact hcell j u hu
    refine wpList_append_own _ hgd s x t ho base e i0 z 1 nb ht hi hz0 hz1 hz2 hzs (by decide) _ n xs hs hown ad vals.length c vals hx (by simp) hcells h1 (by unfold maxLen; omega) (by omega) hbase ?_
    intro v' w' h2 h3 _
    exact h v' w' h2 ((Below.refl base wr).grown h3 hbase (fun k hk => (World.ownsRow.lt hown k hk).1))
end

theorem row_reads1 {base : Nat} {e : TypeId} {w : World} {v : Value} {n : Nat} {xs : List Value} (h : w.ownsRow base e 1 v n xs) : Reads1 w w.heap.size v xs := by
  have hl : xs.length = n := by simpa using h.1
  rcases h.2 with ⟨rfl, rfl⟩ | ⟨g, cap, cur, rfl, _, hg, _⟩
  · exact ⟨none, 0, by rw [hl], fun h0 => by omega⟩
  · refine ⟨some ⟨g, 0, none⟩, cap, by rw [hl], fun _ => ⟨g, 0, rfl, lt_of_block hg, fun j u hu => ?_⟩⟩
    have hj : j < n * 1 := by have := (List.getElem?_eq_some_iff.1 hu).1; omega
    rw [Nat.zero_add, h.cellAt j hj, hu]
theorem int_one {l : List Int} : ∀ u ∈ l.map (Value.int .i64), u.oneCell' = true := by
  intro u hu
  obtain ⟨x, _, rfl⟩ := List.mem_map.1 hu
  rfl

def markI : Value := .int .i64 (-77)

set_option maxRecDepth 1000000 in
set_option maxHeartbeats 400000 in
theorem lentInts_any (v : Value) (vals : List Value) (w : World) (hr : Reads1 w w.heap.size v vals) (hform : ∀ n c, v = .slice none n c → n = 0 ∧ c = 0) (h1 : ∀ u ∈ vals, u.oneCell' = true) (hl : vals.length ≤ 1000000) :
    Calls Tryz.prog 6 #[v] w fun e w' => ∃ v', e = .returned v' ∧ Lent w' w.heap.size vals markI v' ∧ Below w.heap.size w w' := by
  have hv : ∃ A c, v = .slice A vals.length c := by obtain ⟨A, c, h, _⟩ := hr; exact ⟨A, c, h⟩
  obtain ⟨A, c, rfl⟩ := hv
  go_enter Tryz.func6, Tryz.ntmps6
  go_wp2_with (at_builtin; first | (refine append_copy rfl _ _ 22 3 (.int .i64 0) 8 Tryz.underlying22 Tryz.infoInt rfl (by decide) rfl w.heap.size w rfl w.heap.size (.slice A vals.length c) rfl vals hr hform h1 hl (Nat.le_refl _) ?_; intro v1 w1 hown hb1) | (refine append_mark rfl _ _ 22 3 (.int .i64 0) 8 Tryz.underlying22 Tryz.infoInt rfl (by decide) rfl w.heap.size w1 v1 rfl vals hown markI rfl rfl hl hb1.size ?_; intro g cap w2 hlent hcap hb2))
  go_ret
  exact ⟨_, rfl, hlent, hb1.trans hb2⟩

set_option maxRecDepth 1000000 in
set_option maxHeartbeats 800000 in
theorem sameInts_any (v1 v2 : Value) (l : List Int) (w : World) (hr1 : Reads1 w w.heap.size v1 (l.map (Value.int .i64))) (hr2 : Reads1 w w.heap.size v2 (l.map (Value.int .i64))) (hl : l.length ≤ 1000000) :
    Calls Tryz.prog 13 #[v1, v2] w fun e w' => e = .returned (.bool true) ∧ Below w.heap.size w w' := by
  obtain ⟨A1, c1, rfl, hc1⟩ := hr1
  obtain ⟨A2, c2, rfl, hc2⟩ := hr2
  simp only [List.length_map] at hc1 hc2 ⊢
  go_enter Tryz.func13, Tryz.ntmps13
  go_wp2
  go_loopw [5] (fun i wr => ∃ k : Nat, k ≤ l.length ∧ i = .int .i64 k ∧ Below w.heap.size w wr) (fun i _ => l.length - (RowKit.intOf i).toNat)
  case atStart => exact ⟨0, Nat.zero_le _, rfl, Below.refl _ _⟩
  case round =>
    obtain ⟨k, hk, rfl, hbl⟩ := hrel
    have hbs := hbl.size
    by_cases hlt : k < l.length
    · obtain ⟨b1, o1, rfl, hbb1, hcell1⟩ := hc1 (by omega)
      obtain ⟨b2, o2, rfl, hbb2, hcell2⟩ := hc2 (by omega)
      have hck1 : wr.cell? ⟨b1, o1 + k, none⟩ = some (.int .i64 l[k]) := (hbl.cell (p := ⟨b1, o1 + k, none⟩) hbb1).trans (hcell1 k _ (by simp [hlt]))
      have hck2 : wr.cell? ⟨b2, o2 + k, none⟩ = some (.int .i64 l[k]) := (hbl.cell (p := ⟨b2, o2 + k, none⟩) hbb2).trans (hcell2 k _ (by simp [hlt]))
      generalize l[k] = x at *
      clear hc1 hc2 hcell1 hcell2
      have hlt' : (k : Int) < (l.length : Int) := by omega
      go_wp2_with fail
      go_quiet (fail)
      go_wp2
      exact ⟨⟨k + 1, by omega, by go_num, below_drewB hbl nq⟩, by simp [RowKit.intOf]; omega⟩
    · go_wp2
      go_ret
      exact ⟨rfl, hbl⟩
set_option maxRecDepth 1000000 in
set_option maxHeartbeats 800000 in
theorem staysInts_any (base : Nat) (v1 v2 : Value) (l : List Int) (w : World) (hr1 : Lent w base (l.map (Value.int .i64)) markI v1) (hr2 : Reads1 w w.heap.size v2 (l.map (Value.int .i64))) (hl : l.length ≤ 1000000) :
    Calls Tryz.prog 14 #[v1, v2] w fun e w' => e = .returned (.bool true) ∧ Below w.heap.size w w' := by
  have hsame := sameInts_any v1 v2 l w hr1.reads hr2 hl
  obtain ⟨g, cap, rfl, h1, h2, h3, h4, h5⟩ := hr1
  simp only [List.length_map] at hsame h3 ⊢
  have hck : w.cell? ⟨g, l.length, none⟩ = some markI := h5 l.length _ (by simp)
  clear h5 hr2
  go_enter Tryz.func14, Tryz.ntmps14
  go_wp2_with fail
  refine hsame.mono ?_
  rintro e w1 ⟨rfl, hb1⟩
  have hck1 : w1.cell? ⟨g, l.length, none⟩ = some (.int .i64 (-77)) := (hb1.cell (p := ⟨g, l.length, none⟩) h2).trans hck
  have hlc : (l.length : Int) + 1 ≤ (cap : Int) := by omega
  go_wp2
  go_ret
  exact ⟨rfl, hb1⟩

end Go.Proofs.YtlalhinodmmgfaaGreat
