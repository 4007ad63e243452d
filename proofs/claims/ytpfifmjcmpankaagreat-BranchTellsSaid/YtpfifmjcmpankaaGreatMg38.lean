/-
  Walks over the document's own answers to chapter 9: FindChild, Replace. Walks over the document's own answers to chapter 9: SplitBranch.
-/
import Derived.Test.YtpfifmjcmpankaaGreatMg32
import Derived.Test.YtpfifmjcmpankaaGreatMg24
import Derived.Test.YtpfifmjcmpankaaGreatMg37
import Derived.Deep.QuietTactic
import Derived.BigQuiet
namespace Go.Proofs.YtpfifmjcmpankaaGreat.BR
open Go.RowKit Go.Lib

/-- append in a region, its run known. -/
theorem wpList_append_run8 {P : Program} (w : World) {ops : Array Oper} {rest : List Oper} {o : Oper} {a : Act} {Q : Exit → Act → World → Prop} (hw : Region.wanted o (yielded ops a.tmps) = true) (s x : Operand) (t tn : TypeId)
    (ho : o.op = .call { callee := .builtin .append, args := #[s, x], argTypes := #[t, tn] }) (vs vx : Value) (hs : a.eval s = vs) (hx : a.eval x = vx)
    (v' : Value) (w' : World) (hr : (Builtin.append_ #[t, tn] o.type #[vs, vx]).run P w = .ok v' w') (h : wpList P ops Q rest (a.put o.dst v') w') : wpList P ops Q (o :: rest) a w := by
  show (if Region.wanted o (yielded ops a.tmps) then o.wp P a w (wpList P ops Q rest) Q ∨ (o.asks P a w ∧ LetsOut Q) else wpList P ops Q rest (a.put o.dst undef) w)
  rw [if_pos hw]
  exact .inl (Lib.wp_append_run w s x t tn ho vs vx hs hx v' w' hr h)
/-- append(row, v...) of children, v of any length, as a run. -/
theorem run_its8 {wr : World} {base : Nat} {d : Value} {xs : List Chd} (hown : wr.ownsRow base 131 2 d xs.length (ilist xs)) {B : Nat} {v : Value} {l : List Chd} (hr : ReadsIt wr B v l) (hlen : xs.length + l.length ≤ 1000000) (hbase : base ≤ wr.heap.size) (ty : TypeId) :
    ∃ A c w', (Builtin.append_ #[60, 60] ty #[d, v]).run Tryz.prog wr = .ok (.slice A (xs ++ l).length c) w' ∧ w'.ownsRow base 131 2 (.slice A (xs ++ l).length c) (xs ++ l).length (ilist (xs ++ l)) ∧ Below base wr w' := by
  obtain ⟨i0, hi, hz0, hz1, hz2⟩ := info_parts Tryz.infoChild
  obtain ⟨A, c, rfl, _, _, hnil, hc⟩ := hr
  cases A with
  | none =>
    obtain ⟨rfl, rfl⟩ := hnil rfl
    have hrun := run_append_owned_none (P := Tryz.prog) (w := wr) base 60 ty 131 i0 2 Tryz.underlying60 hi d xs.length (ilist xs) hown
    rw [List.append_nil]
    obtain ⟨A', c', hv⟩ := (row_readsIt hown).form
    subst hv
    exact ⟨A', c', wr, hrun, hown, Below.refl base wr⟩
  | some ad =>
    have hcells : ∀ j u, (ilist l)[j]? = some u → wr.cell? (ad.add j) = some u := by
      intro j u hu
      have hj := (List.getElem?_eq_some_iff.1 hu).1
      rw [length_ilist] at hj
      obtain ⟨b, off, hA, _, hcell⟩ := hc (by omega)
      obtain rfl := Option.some.inj hA
      rw [Go.WideShapes.add_plain]
      exact hcell.list j u hu
    obtain ⟨v', w', hrun, h2, h3, _⟩ := run_append_own (P := Tryz.prog) wr base 60 ty 131 i0 _ 2 24 Tryz.underlying60 hi hz0 hz1 hz2 rfl (by decide) d xs.length (ilist xs) hown ad l.length c (ilist l) (length_ilist l) hcells (ilist_one l) (by unfold maxLen; omega) (by omega) hbase
    rw [← ilist_append, ← List.length_append] at h2
    obtain ⟨A', c', hv⟩ := (row_readsIt h2).form
    subst hv
    exact ⟨A', c', w', hrun, h2, (Below.refl base wr).grown h3 hbase (fun k hk => (World.ownsRow.lt hown k hk).1)⟩
/-- A new copy of some items. -/
theorem run_fresh8 {wr : World} {B : Nat} {v : Value} {l : List Chd} (hr : ReadsIt wr B v l) (hlen : l.length ≤ 1000000) (base : Nat) (hbase : base ≤ wr.heap.size) (ty : TypeId) :
    ∃ A c w', (Builtin.append_ #[60, 60] ty #[.slice none 0 0, v]).run Tryz.prog wr = .ok (.slice A l.length c) w' ∧ w'.ownsRow base 131 2 (.slice A l.length c) l.length (ilist l) ∧ Below base wr w' :=
  run_its8 (xs := []) (World.ownsRow_nil wr base 131 2) hr (by simp; omega) hbase ty

/-- append of children in a region whose order is open. -/
theorem wp_append_its8 {K : Act → World → Prop} {o : Oper} {a : Act} {Q : Exit → Act → World → Prop} (s x : Operand) (ho : o.op = .call { callee := .builtin .append, args := #[s, x], argTypes := #[60, 60] }) (wr : World) (base : Nat) (d : Value) (xs : List Chd) (n : Nat) (hn : xs.length = n) (hs : a.eval s = d)
    (hown : wr.ownsRow base 131 2 d n (ilist xs)) (B : Nat) (v : Value) (l : List Chd) (hx : a.eval x = v) (hr : ReadsIt wr B v l) (N : Nat) (hN : (xs ++ l).length = N) (hlen : N ≤ 1000000) (hbase : base ≤ wr.heap.size)
    (h : ∀ A c w', w'.ownsRow base 131 2 (.slice A N c) N (ilist (xs ++ l)) → Below base wr w' → K (a.put o.dst (.slice A N c)) w') : o.wp Tryz.prog a wr K Q := by
  subst hn
  obtain ⟨A, c, w', hrun, hown', hb⟩ := run_its8 hown hr (by rw [← List.length_append]; omega) hbase o.type
  rw [hN] at hrun hown'
  exact Lib.wp_append_run wr s x 60 60 ho d v hs hx _ _ hrun (h A c w' hown' hb)


set_option maxRecDepth 100000 in
set_option maxHeartbeats 1000000 in
theorem refFind_any (v : Value) (l : List Chd) (k : ByteArray) (w : World) (hr : ReadsIt w w.heap.size v l) (hrise : Rise (l.drop 1)) (hz : ∀ y ∈ l, y.key.size ≤ 9223372036854775807) (hk : k.size ≤ 9223372036854775807) (hl : l.length ≤ 1000000) :
    Calls Tryz.prog 46 #[v, .string k] w fun e w' => e = .returned (.int .i64 (fnd l k : Nat)) ∧ Below w.heap.size w w' := by
  obtain ⟨A, c, rfl, _, _, _, hc⟩ := hr
  obtain ⟨m, hm⟩ : ∃ m, fnd l k = m := ⟨_, rfl⟩
  have hfl := fnd_le l k
  rw [hm] at hfl ⊢
  have HM : Hid ((∀ i (_ : 1 ≤ i) (_ : i ≤ m) (hi : i < l.length), ltK k l[i].key = false) ∧ (∀ i (_ : m < i) (hi : i < l.length), ltK k l[i].key = true)) := Lib.hid (by subst hm; exact ⟨fun i h1 h2 hi => fnd_below h1 h2 hi, fun i h hi => fnd_above hrise h hi⟩)
  have HC := Lib.hid (And.intro hc hz)
  clear hc hz hm hrise
  go_enter Tryz.func46, Tryz.ntmps46
  go_wp2_with fail
  go_loopw [5, 6] (fun kv i wr => ∃ j : Nat, 1 ≤ j ∧ (j ≤ l.length ∨ j = 1) ∧ i = .int .i64 j ∧ kv = .int .i64 (min (j - 1) m : Nat) ∧ Below w.heap.size w wr) (fun _ i _ => l.length - (RowKit.intOf i).toNat)
  case atStart => exact ⟨1, Nat.le_refl _, .inr rfl, rfl, by simp, Below.refl _ _⟩
  case round =>
    obtain ⟨j, hj1, hj, rfl, rfl, hbl⟩ := hrel
    have hbs := hbl.size
    by_cases hlt : j < l.length
    · obtain ⟨hc, hz⟩ := HC.out
      obtain ⟨b, off, rfl, hbb, hcell⟩ := hc (by omega)
      obtain ⟨c0, c1⟩ := (hcell.below hbl hbb) j hlt
      have hlt' : (j : Int) < l.length := by omega
      have hj0 : (0 : Int) ≤ j := by omega
      have hL := less_any k l[j].key wr hk (hz _ (by simp))
      have hlow := fun h => HM.out.1 j hj1 h hlt
      have hups := fun h => HM.out.2 j h hlt
      generalize l[j] = x at *
      have HB := Lib.hid hbl
      have HJ := Lib.hid hj
      clear hc hz hcell hbl c1 hj
      by_cases hjm : j ≤ m
      · rw [hlow hjm] at hL
        have e1 : min (j + 1 - 1) m = j := by omega
        obtain ⟨q, hq⟩ : ∃ q, min (j - 1) m = q := ⟨_, rfl⟩
        rw [hq]
        clear hlow hups hq
        go_wp2_with fail
        refine hL.mono ?_
        rintro e w1 ⟨rfl, hb1⟩
        clear hL c0
        go_wp2_with fail
        go_roundw
        case rel => exact ⟨j + 1, by omega, .inl (by omega), by go_num, by rw [e1], HB.out.trans (hb1.mono hbs)⟩
        case measure => simp [RowKit.intOf]; omega
      · rw [hups (by omega)] at hL
        have e1 : min (j + 1 - 1) m = min (j - 1) m := by omega
        obtain ⟨q, hq⟩ : ∃ q, min (j - 1) m = q := ⟨_, rfl⟩
        rw [hq] at e1 ⊢
        clear hlow hups hq
        go_wp2_with fail
        refine hL.mono ?_
        rintro e w1 ⟨rfl, hb1⟩
        clear hL c0
        go_wp2_with fail
        go_roundw
        case rel => exact ⟨j + 1, by omega, .inl (by omega), by go_num, by rw [e1], HB.out.trans (hb1.mono hbs)⟩
        case measure => simp [RowKit.intOf]; omega
    · have e1 : min (j - 1) m = m := by omega
      rw [e1]
      have HB := Lib.hid hbl
      clear hbl hj hfl
      go_wp2_with fail
      go_ret
      exact ⟨rfl, HB.out⟩

set_option maxRecDepth 100000 in
set_option maxHeartbeats 1000000 in
theorem refReplace_any (v vx : Value) (l x : List Chd) (i : Int) (w : World) (hr : ReadsIt w w.heap.size v l) (hx : ReadsIt w w.heap.size vx x) (hi : IsInt i) (hl : l.length ≤ 100000) (hlx : x.length ≤ 100000) :
    Calls Tryz.prog 43 #[v, .int .i64 i, vx] w fun e w' => ∃ v', e = .returned v' ∧ w'.ownsRow w.heap.size 131 2 v' (replL l i x).length (ilist (replL l i x)) ∧ Below w.heap.size w w' := by
  obtain ⟨A, c, rfl⟩ := hr.form
  obtain ⟨Ax, cx, rfl⟩ := hx.form
  have hc1 : l.length ≤ c := by obtain ⟨A', c', hv, hc, _⟩ := hr; cases hv; exact hc
  by_cases hin : 0 ≤ i ∧ i < l.length
  · obtain ⟨h0, h1⟩ := hin
    obtain ⟨k, rfl⟩ : ∃ k : Nat, i = k := ⟨i.toNat, by omega⟩
    have hk : k < l.length := by omega
    rw [replL_in hk]
    have hrH := run_high A l.length c k (by omega)
    have hrL0 := run_low A l.length c (k + 1) (by omega)
    obtain ⟨A2, hA2⟩ : ∃ A2, lowV A l.length c (k + 1) = .slice A2 (l.length - (k + 1)) (c - (k + 1)) := ⟨_, rfl⟩
    have r2 := reads_low hr (k := k + 1) (by omega)
    simp only [hA2] at hrL0 r2
    have hrL : ∀ W, (Instr.slice 60 (.slice A l.length c) (some (.int .i64 ((k : Int) + 1))) none none).run Tryz.prog W = .ok (.slice A2 (l.length - (k + 1)) (c - (k + 1))) W := fun W => by have := hrL0 W; rwa [show (((k + 1 : Nat)) : Int) = (k : Int) + 1 by omega] at this
    have hlen := rawL_len hk x
    have hD : (l.take k ++ x) ++ l.drop (k + 1) = rawL l k x := by unfold rawL; rw [List.append_assoc]
    have hwd : Below w.heap.size w w.drew := (Below.refl _ _).drew
    obtain ⟨A3, c3, w3, hrun3, hown3, hb3⟩ := run_fresh8 (reads_high (hr.below hwd) (k := k) (by omega)) (by simp; omega) w.heap.size (Nat.le_refl _) 60
    have hln : (l.take k).length = k := by simp; omega
    rw [hln] at hrun3 hown3
    have hb03 := hwd.trans hb3
    obtain ⟨A4, c4, w4, hrun4, hown4, hb4⟩ := run_its8 (by rw [hln]; exact hown3) (hx.below hb03) (by simp; omega) hb03.size 60
    have hlkx : (l.take k ++ x).length = k + x.length := by rw [List.length_append, hln]
    rw [hlkx] at hrun4 hown4
    have hb04 := hb03.trans hb4
    obtain ⟨A5, c5, w5, hrun5, hown5, hb5⟩ := run_its8 (by rw [hlkx]; exact hown4) (r2.below hb04) (by simp; omega) hb04.size 60
    rw [hD] at hrun5 hown5
    have hb05 := hb04.trans hb5
    have hfl := first_len (rawL l k x)
    have hif := @ilist_first (rawL l k x)
    rw [hfl]
    have hk0 : ¬ ((k : Int) < 0) := by omega
    have hkl : (k : Int) < l.length := by omega
    have hk100 : (k : Int) ≤ 99999 := by omega
    have hwi : IntKind.i64.wrap ((k : Int) + 1) = (k : Int) + 1 := by rw [IntKind.wrap_i64]; omega
    clear r2 hrL0 hA2 hr hx h0 h1 hD hwd hln hlkx hown3 hown4 hb3 hb4 hb5 hb03 hb04
    generalize rawL l k x = D at *
    obtain ⟨M, hM⟩ : ∃ M, D.length = M := ⟨_, rfl⟩
    rw [hM] at hrun5 hown5 hlen
    have hM1 : (M : Int) ≤ 200000 := by omega
    have HM := Lib.hid (And.intro hM (And.intro hif hlen))
    have HX := Lib.hid (And.intro hrun3 (And.intro hrun4 (And.intro hrun5 (And.intro hown5 hb05))))
    clear hif hlen hfl hrun3 hrun4 hrun5 hown5 hb05
    rw [hM]
    clear hM
    generalize l.length = n at *
    generalize x.length = nx at *
    go_enter Tryz.func43, Tryz.ntmps43
    go_wp2_with fail
    go_region_held3 (fun _ => True) (trivial) (first
      | (refine Lib.wp_append_run w.drew _ _ 60 60 rfl (.slice none 0 0) (.slice A k c) rfl rfl _ _ HX.out.1 ?_)
      | (refine Lib.wp_append_run w3 _ _ 60 60 rfl (.slice A3 k c3) (.slice Ax nx cx) rfl rfl _ _ HX.out.2.1 ?_)
      | (refine Lib.wp_append_run w4 _ _ 60 60 rfl (.slice A4 (k + nx) c4) (.slice A2 (n - (k + 1)) (c - (k + 1))) rfl rfl _ _ HX.out.2.2.1 ?_))
    obtain ⟨_, _, _, hown5, hb5⟩ := HX.out
    have hg4 : 0 < M → ∃ g, A5 = some ⟨g, 0, none⟩ := fun h => by
      rcases hown5.2 with ⟨_, h0⟩ | ⟨g, cap, cur, h1, _⟩
      · omega
      · cases h1; exact ⟨g, rfl⟩
    by_cases hM0 : M = 0
    · have HO := Lib.hid (And.intro hown5 hb5)
      have hD : D = [] := List.eq_nil_of_length_eq_zero (by have := HM.out.1; omega)
      have HD := Lib.hid hD
      subst hM0
      clear hown5 hb5 hg4 hD HX
      go_wp2_with fail
      go_ret
      have hD := HD.out
      rw [hD] at HO ⊢
      exact ⟨_, rfl, HO.out⟩
    · obtain ⟨g, rfl⟩ := hg4 (by omega)
      have hst := (hown5.stored 0 (.string ⟨#[]⟩)).1
      rw [HM.out.2.1 (by have := HM.out.1; omega)] at hst
      have hgg := (hown5.lt g rfl).1
      have hfz := hown5.frozenAt 0
      have hc0 : ∃ u, w5.cell? ⟨g, 0, none⟩ = some u := by
        have h1 := hown5.cellAt 0 (by omega)
        rw [h1]
        have h2 : 0 < (ilist D).length := by rw [length_ilist]; have := HM.out.1; omega
        exact ⟨_, List.getElem?_eq_getElem h2⟩
      obtain ⟨u0, hc0⟩ := hc0
      have HO := Lib.hid (And.intro hst (hb5.setCell (p := ⟨g, 0, none⟩) hgg (.string ⟨#[]⟩)))
      have hM0' : ((0 : Int) < (M : Int)) := by omega
      clear hown5 hb5 hg4 hst HX
      go_wp2_with fail
      go_ret
      exact ⟨_, rfl, HO.out⟩
  · have e1 : replL l i x = l := by unfold replL; rw [if_neg hin]
    rw [e1]
    obtain ⟨A3, c3, w3, hrun3, hown3, hb3⟩ := run_fresh8 hr (by omega) w.heap.size (Nat.le_refl _) 60
    have HX := Lib.hid (And.intro hrun3 (And.intro hown3 hb3))
    have hno : i < 0 ∨ (0 ≤ i ∧ (l.length : Int) ≤ i) := by omega
    generalize x.length = nx at *
    clear hin hr hx e1 hrun3 hown3 hb3
    rcases hno with h | ⟨h, h2⟩
    all_goals
      go_enter Tryz.func43, Tryz.ntmps43
      go_wp2_with (at_builtin; (refine wpList_append_run8 w (by kernel_rfl) _ _ 60 60 rfl (.slice none 0 0) (.slice A l.length c) rfl rfl _ _ HX.out.1 ?_))
      go_ret
      exact ⟨_, rfl, HX.out.2.1, HX.out.2.2⟩
end Go.Proofs.YtpfifmjcmpankaaGreat.BR

namespace Go.Proofs.YtpfifmjcmpankaaGreat.BR
open Go.RowKit Go.Lib

theorem row_readsN {base : Nat} {w : World} {v : Value} {l : List Chd} {n : Nat} (hn : l.length = n) (h : w.ownsRow base 131 2 v n (ilist l)) : ReadsIt w w.heap.size v l := by
  subst hn
  exact row_readsIt h

/-- v is a row of the children l, in a block that is made since base. -/
def OwnC (base : Nat) (w : World) (v : Value) (l : List Chd) : Prop := w.ownsRow base 131 2 v l.length (ilist l)
theorem OwnC.of {base base' : Nat} {w : World} {v : Value} {l : List Chd} {n : Nat} (hn : l.length = n) (h : w.ownsRow base 131 2 v n (ilist l)) (hb : base' ≤ base) : OwnC base' w v l := by
  subst hn
  exact row_lower h hb
theorem OwnC.on {base : Nat} {w w' : World} {v : Value} {l : List Chd} (h : OwnC base w v l) (hb : Below w.heap.size w w') : OwnC base w' v l := row_kept (F := []) h (Kept.of_below hb) (fun _ _ e => by simp at e)
theorem OwnC.reads {base : Nat} {w : World} {v : Value} {l : List Chd} (h : OwnC base w v l) : ReadsIt w w.heap.size v l := row_readsIt h

set_option maxRecDepth 100000 in
set_option maxHeartbeats 1000000 in
theorem refSplit_any (v : Value) (l : List Chd) (w : World) (hr : ReadsIt w w.heap.size v l) (hf : ∀ x ∈ l, x.fair) (hl : l.length ≤ 100000) (hs : sz l ≤ 1000000000000) :
    Calls Tryz.prog 37 #[v] w fun e w' => ∃ v1 v2, e = .returned (.tuple #[v1, v2]) ∧ OwnC w.heap.size w' v1 (l.take (halfL l)) ∧ OwnC w.heap.size w' v2 (l.drop (halfL l)) ∧ Below w.heap.size w w' := by
  obtain ⟨A, c, rfl⟩ := hr.form
  have hc1 : l.length ≤ c := by obtain ⟨A', c', hv, hc, _⟩ := hr; cases hv; exact hc
  have HR := Lib.hid hr
  by_cases h2 : l.length < 2
  · have hh : halfL l = l.length := by unfold halfL; rw [if_pos h2]
    rw [hh, List.take_length, List.drop_length]
    obtain ⟨A2, c2, w2, hrun, hown, hb2⟩ := run_fresh8 hr (by omega) w.heap.size (Nat.le_refl _) 60
    have hli : (l.length : Int) < 2 := by omega
    have HX := Lib.hid (And.intro hrun (And.intro hown hb2))
    clear hr hrun hown hb2 hh
    go_enter Tryz.func37, Tryz.ntmps37
    go_wp2_with (at_builtin; (refine wpList_append_run8 w (by kernel_rfl) _ _ 60 60 rfl (.slice none 0 0) (.slice A l.length c) rfl rfl _ _ HX.out.1 ?_))
    go_ret2
    exact ⟨_, _, rfl, HX.out.2.1, World.ownsRow_nil _ _ _ _, HX.out.2.2⟩
  · have hli : ¬ (l.length : Int) < 2 := by omega
    clear hr
    go_enter Tryz.func37, Tryz.ntmps37
    go_wp2_with fail
    go_loopw [4, 5, 6] (fun bv av i wr => ∃ k : Nat, 1 ≤ k ∧ k ≤ l.length ∧ i = .int .i64 k ∧ ((k = 1 ∧ bv = .int .i64 0 ∧ av = .int .i64 0) ∨ (2 ≤ k ∧ bv = .int .i64 ((bestTo l (k - 1)).1 : Nat) ∧ av = .int .i64 ((bestTo l (k - 1)).2 : Nat))) ∧ Below w.heap.size w wr) (fun _ _ i _ => l.length - (RowKit.intOf i).toNat)
    case atStart => exact ⟨1, Nat.le_refl _, by omega, rfl, .inl ⟨rfl, rfl, rfl⟩, Below.refl _ _⟩
    case round =>
      obtain ⟨k, hk1, hk, rfl, hst, hbl⟩ := hrel
      have hbs := hbl.size
      by_cases hlt : k < l.length
      · have hrH := run_high A l.length c k (by omega)
        have hrL := run_low A l.length c k (by omega)
        obtain ⟨A2, hA2⟩ : ∃ A2, lowV A l.length c k = .slice A2 (l.length - k) (c - k) := ⟨_, rfl⟩
        simp only [hA2] at hrL
        have hltI : (k : Int) < l.length := by omega
        have HS1 := Lib.hid (fun W (hb : Below w.heap.size w W) => refLeafSize_any (.slice A k c) (l.take k) W (reads_high (HR.out.grow hb hb.size) (by omega)) (fun y hy => hf y (List.mem_of_mem_take hy)) (by simp; omega))
        have HS2 := Lib.hid (fun W (hb : Below w.heap.size w W) => refLeafSize_any (.slice A2 (l.length - k) (c - k)) (l.drop k) W (hA2 ▸ reads_low (HR.out.grow hb hb.size) (by omega)) (fun y hy => hf y (List.mem_of_mem_drop hy)) (by simp; omega))
        have hgr : grOf l k = max (sz (l.take k)) (sz (l.drop k)) := by unfold grOf; rw [(sz_take l k).2]; congr 1; omega
        have HG1 := Lib.hid (fun d os => HS1.out (gw wr d os) (hbl.trans ((gw_below wr d os).mono hbs)))
        have HG2 := Lib.hid (fun d os => HS2.out (gw wr d os) (hbl.trans ((gw_below wr d os).mono hbs)))
        have HG := Lib.hid (And.intro hgr (And.intro hst hbl))
        clear hst hbl hgr hA2 HS1 HS2
        generalize sz (l.take k) = T1 at *
        generalize sz (l.drop k) = T2 at *
        go_wp2_with fail
        refine wp_region_gw (by kernel_rfl) (by kernel_rfl) ?_
        repeat (refine wq_step (fun K hK => ?_); go_simp; first | (refine hK _ ?_; clear hK K) | (apply Exists.intro; refine ⟨fun _ => ?_, hK _ ?_⟩; (first | (go_at_call 41; ((with_reducible exact Calls.gw_of (HG1.out _ _)))) | (go_at_call 41; ((with_reducible exact Calls.gw_of (HG2.out _ _))))); clear hK K))
        refine wq_nil ?_
        intro w1 hw1
        replace hw1 := gw_to hw1
        obtain ⟨G, hG⟩ : ∃ G, grOf l k = G := ⟨_, rfl⟩
        have hm : max (T1 : Int) (T2 : Int) = (G : Int) := by rw [← hG, HG.out.1]; omega
        rw [hm]
        have HW := Lib.hid (And.intro hw1 hG)
        have hbw := HG.out.2.2.trans (hw1.mono hbs)
        have HB := Lib.hid hbw
        clear hw1 hG hm hbw
        rcases HG.out.2.1 with ⟨rfl, rfl, rfl⟩ | ⟨hk2, rfl, rfl⟩
        · go_wp2_with fail
          go_roundw
          case rel =>
            refine ⟨2, by omega, by omega, by rfl, .inr ⟨by omega, ?_, ?_⟩, HB.out⟩
            · have h1 := bestTo_is l 1 (by omega)
              have h2 := (bestTo_le l 1).2
              have h3 : (bestTo l 1).2 = 1 := by omega
              rw [h3, HW.out.2] at h1
              show _ = Value.int .i64 ((bestTo l 1).1 : Nat)
              rw [h1.2]
            · have h1 := bestTo_is l 1 (by omega)
              have h2 := (bestTo_le l 1).2
              have h3 : (bestTo l 1).2 = 1 := by omega
              show _ = Value.int .i64 ((bestTo l 1).2 : Nat)
              rw [h3]
          case measure => simp [RowKit.intOf]; omega
        · obtain ⟨j, rfl⟩ : ∃ j, k = j + 1 := ⟨k - 1, by omega⟩
          have hbj : bestTo l (j + 1) = if grOf l (j + 1) < (bestTo l j).1 then (grOf l (j + 1), j + 1) else bestTo l j := rfl
          rw [HW.out.2] at hbj
          have hj1 : j + 1 - 1 = j := by omega
          rw [hj1]
          obtain ⟨B, hB⟩ : ∃ B, (bestTo l j).1 = B := ⟨_, rfl⟩
          obtain ⟨T, hT⟩ : ∃ T, (bestTo l j).2 = T := ⟨_, rfl⟩
          rw [hB] at hbj
          have HJ := Lib.hid (And.intro hbj (And.intro hB hT))
          rw [hB, hT]
          have hjn : ¬ ((j : Int) = 0) := by omega
          have hne : (((j + 1 : Nat) : Int) == 1) = false := by rw [beq_eq_false_iff_ne]; omega
          clear hbj hB hT hj1
          by_cases hlt2 : G < B
          · go_wp2_with fail
            go_roundw
            case rel =>
              have h0 := HJ.out.1
              rw [if_pos hlt2] at h0
              refine ⟨j + 2, by omega, by omega, by go_num, .inr ⟨by omega, ?_, ?_⟩, HB.out⟩
              · show _ = Value.int .i64 ((bestTo l (j + 1)).1 : Nat)
                rw [h0]
              · show _ = Value.int .i64 ((bestTo l (j + 1)).2 : Nat)
                rw [h0]
                simp
            case measure => simp [RowKit.intOf]; omega
          · go_wp2_with fail
            go_roundw
            case rel =>
              have h0 := HJ.out.1
              rw [if_neg hlt2] at h0
              refine ⟨j + 2, by omega, by omega, by go_num, .inr ⟨by omega, ?_, ?_⟩, HB.out⟩
              · show _ = Value.int .i64 ((bestTo l (j + 1)).1 : Nat)
                rw [h0, HJ.out.2.1]
              · show _ = Value.int .i64 ((bestTo l (j + 1)).2 : Nat)
                rw [h0, HJ.out.2.2]
            case measure => simp [RowKit.intOf]; omega
      · obtain rfl : k = l.length := by omega
        rcases hst with ⟨h1, _, _⟩ | ⟨hk2, rfl, rfl⟩
        · omega
        have hh : (bestTo l (l.length - 1)).2 = halfL l := by unfold halfL; rw [if_neg h2]
        rw [hh]
        have hle := half_le l
        obtain ⟨h, hhh⟩ : ∃ h, halfL l = h := ⟨_, rfl⟩
        rw [hhh] at hle ⊢
        have hrH := run_high A l.length c h (by omega)
        have hrL := run_low A l.length c h (by omega)
        obtain ⟨A2, hA2⟩ : ∃ A2, lowV A l.length c h = .slice A2 (l.length - h) (c - h) := ⟨_, rfl⟩
        simp only [hA2] at hrL
        have HT := Lib.hid (fun W (hb : Below wr.heap.size wr W) => reads_high (HR.out.below (hbl.trans (hb.mono hbs))) (k := h) hle)
        have HD := Lib.hid (fun W (hb : Below wr.heap.size wr W) => (hA2 ▸ reads_low (HR.out.below (hbl.trans (hb.mono hbs))) (k := h) hle : ReadsIt W w.heap.size (.slice A2 (l.length - h) (c - h)) (l.drop h)))
        have HN := Lib.hid (And.intro (show (l.take h).length = h by simp; omega) (And.intro (show (l.drop h).length = l.length - h by simp) (And.intro (show h ≤ 1000000 by omega) (And.intro (show l.length - h ≤ 1000000 by omega) hbl))))
        have HH2 := Lib.hid hhh
        clear hh hhh hbl hA2 hl hs
        go_wp2_with fail
        go_region_held3 (fun w' => Below wr.heap.size wr w') (first | assumption | exact (Below.refl _ _).drew) (first
          | (refine wp_append_its8 _ _ rfl _ _ (.slice none 0 0) [] 0 rfl rfl (World.ownsRow_nil _ _ _ _) _ (.slice A h c) (l.take h) rfl (HT.out _ (by first | assumption | exact (Below.refl _ _).drew)) h HN.out.1 HN.out.2.2.1 (Nat.le_refl _) ?_; intro A3 c3' w3 hown3 hb3; have hr3 := OwnC.of (base' := w.heap.size) (l := l.take h) HN.out.1 hown3 (by first | exact hbs | exact Nat.le_trans hbs (Below.size (by assumption))); have hq3 : Below wr.heap.size wr w3 := Below.trans (by first | assumption | exact (Below.refl _ _).drew) (hb3.mono (by first | exact Nat.le_refl _ | exact Below.size (by assumption))))
          | (refine wp_append_its8 _ _ rfl _ _ (.slice none 0 0) [] 0 rfl rfl (World.ownsRow_nil _ _ _ _) _ (.slice A2 (l.length - h) (c - h)) (l.drop h) rfl (HD.out _ (by first | assumption | exact (Below.refl _ _).drew)) (l.length - h) HN.out.2.1 HN.out.2.2.2.1 (Nat.le_refl _) ?_; intro A4 c4' w4 hown4 hb4; have hr4 := OwnC.of (base' := w.heap.size) (l := l.drop h) HN.out.2.1 hown4 (by first | exact hbs | exact Nat.le_trans hbs (Below.size (by assumption))); have hq4 : Below wr.heap.size wr w4 := Below.trans (by first | assumption | exact (Below.refl _ _).drew) (hb4.mono (by first | exact Nat.le_refl _ | exact Below.size (by assumption)))))
        all_goals
          go_wp2_with fail
          go_ret2
          rw [HH2.out]
          refine ⟨_, _, rfl, ?_, ?_, ?_⟩
          · first | exact hr3 | exact hr3.on hb4
          · first | exact hr4 | exact hr4.on hb3
          · first | exact HN.out.2.2.2.2.trans (hq4.mono hbs) | exact HN.out.2.2.2.2.trans (hq3.mono hbs)
end Go.Proofs.YtpfifmjcmpankaaGreat.BR
