/-
  BranchFits (P903): of children that fit, one of which gives way to two, all fit, or both parts do, the second one's first key taken off. For every children, every place and every child.
-/
import Derived.Test.YtpfifmjcmpankaaYA9
import Derived.Test.YtpfifmjcmpankaaYB1
import Derived.Test.YtpfifmjcmpankaaFrameC
import Derived.Laws.Cover1
namespace Go.Proofs.Ytpfifmjcmpankaa.BR.branchFits
open Go.ChangeShapes Go.WideShapes Go.ChangeAt Go.RowKit

/-- A child gives way to itself and another one. -/
theorem two_is {l : List Chd} {n : Nat} (h : n < l.length) (x : Chd) (h0 : l[0].key = ⟨#[]⟩) : replL l n [l[n], x] = l.take n ++ (l[n] :: x :: l.drop (n + 1)) := by
  rw [replL_in h]
  show first (rawL l n [l[n], x]) = _
  have e : rawL l n [l[n], x] = l.take n ++ (l[n] :: x :: l.drop (n + 1)) := rfl
  rw [first_same, e]
  intro hp
  rcases Nat.eq_zero_or_pos n with rfl | h1
  · simp [rawL, h0]
  · rw [rawL_low h _ h1]
    exact h0
theorem two_sz {l : List Chd} {n : Nat} (h : n < l.length) (x : Chd) : sz (l.take n ++ (l[n] :: x :: l.drop (n + 1))) = sz l + (itemB x).length := by
  have h1 := (sz_take l n).2
  rw [List.drop_eq_getElem_cons h, sz_cons] at h1
  rw [sz_append, sz_cons, sz_cons]
  omega
theorem two_len {l : List Chd} {n : Nat} (h : n < l.length) (x : Chd) : (l.take n ++ (l[n] :: x :: l.drop (n + 1))).length = l.length + 1 := by
  simp
  omega
theorem two_right {l : List Chd} {n : Nat} (h : n < l.length) {x : Chd} (hl : ∀ y ∈ l, rightB y = true) (hx : rightB x = true) : ∀ y ∈ l.take n ++ (l[n] :: x :: l.drop (n + 1)), rightB y = true := by
  intro y hy
  simp only [List.mem_append, List.mem_cons] at hy
  rcases hy with hy | rfl | rfl | hy
  · exact hl y (List.mem_of_mem_take hy)
  · exact hl _ (List.getElem_mem h)
  · exact hx
  · exact hl y (List.mem_of_mem_drop hy)
theorem two_head {l : List Chd} {n : Nat} (h : n < l.length) (x : Chd) (h0 : l[0].key = ⟨#[]⟩) (hp : 0 < (l.take n ++ (l[n] :: x :: l.drop (n + 1))).length) : (l.take n ++ (l[n] :: x :: l.drop (n + 1)))[0].key = ⟨#[]⟩ := by
  rcases Nat.eq_zero_or_pos n with rfl | h1
  · simpa using h0
  · rw [List.getElem_append_left (by simp; omega), List.getElem_take]
    exact h0
/-- Children that rise behind the first one, whose keys are not empty there, rise. -/
theorem rise_all {m : List Chd} (h2 : 2 ≤ m.length) (h0 : m[0].key = ⟨#[]⟩) (h1 : m[1].key ≠ ⟨#[]⟩) (hr : Rise (m.drop 1)) : Rise m := by
  match m, h2 with
  | a :: b :: r, _ =>
    simp only [List.getElem_cons_zero, List.getElem_cons_succ] at h0 h1
    simp only [List.drop_succ_cons, List.drop_zero] at hr
    unfold Rise at hr ⊢
    rw [List.pairwise_cons]
    refine ⟨fun y hy => ?_, hr⟩
    rw [h0]
    rcases List.mem_cons.1 hy with rfl | hy
    · exact lt_empty h1
    · rw [List.pairwise_cons] at hr
      exact lt_empty (lt_of_empty (hr.1 y hy))
theorem reads_two {W : World} {g : Nat} {y x : Chd} (c0 : W.cell? ⟨g, 0, none⟩ = some (.string y.key)) (c1 : W.cell? ⟨g, 1, none⟩ = some (.int .i64 y.page)) (c2 : W.cell? ⟨g, 2, none⟩ = some (.string x.key)) (c3 : W.cell? ⟨g, 3, none⟩ = some (.int .i64 x.page)) : ReadsIt W W.heap.size (.slice (some ⟨g, 0, none⟩) 2 2) [y, x] := by
  refine ⟨_, 2, rfl, Nat.le_refl _, by unfold maxLen; omega, fun e => (by cases e), fun _ => ⟨g, 0, rfl, World.block_lt_of_cell? W _ c0, fun i hi => ?_⟩⟩
  match i, hi with
  | 0, _ => exact ⟨by simpa using c0, by simpa using c1⟩
  | 1, _ => exact ⟨by simpa using c2, by simpa using c3⟩
  | i + 2, hi => exact absurd hi (by simp)

/-- append(row, v...) of children, as a run. -/
theorem run_its {wr : World} {base : Nat} {d : Value} {xs : List Chd} (hown : wr.ownsRow base 24 2 d xs.length (ilist xs)) {B : Nat} {v : Value} {l : List Chd} (hr : ReadsIt wr B v l) (h0 : 0 < l.length) (hlen : xs.length + l.length ≤ 1000000) (hbase : base ≤ wr.heap.size) (ty : TypeId) :
    ∃ A c w', (Builtin.append_ #[22, 22] ty #[d, v]).run Try.prog wr = .ok (.slice A (xs ++ l).length c) w' ∧ w'.ownsRow base 24 2 (.slice A (xs ++ l).length c) (xs ++ l).length (ilist (xs ++ l)) ∧ Below base wr w' := by
  obtain ⟨i0, hi, hz0, hz1, hz2⟩ := info_parts Try.infoChild
  obtain ⟨A, c, rfl, _, _, hnil, hc⟩ := hr
  obtain ⟨b, off, rfl, _, hcell⟩ := hc h0
  have hcells : ∀ j u, (ilist l)[j]? = some u → wr.cell? ((⟨b, off, none⟩ : Addr).add j) = some u := by
    intro j u hu
    rw [Go.WideShapes.add_plain]
    exact hcell.list j u hu
  obtain ⟨v', w', hrun, h2, h3, _⟩ := run_append_own (P := Try.prog) wr base 22 ty 24 i0 _ 2 24 Try.underlying22 hi hz0 hz1 hz2 rfl (by decide) d xs.length (ilist xs) hown ⟨b, off, none⟩ l.length c (ilist l) (length_ilist l) hcells (ilist_one l) (by unfold maxLen; omega) (by omega) hbase
  rw [← ilist_append, ← List.length_append] at h2
  obtain ⟨A', c', hv⟩ := (row_readsIt h2).form
  subst hv
  exact ⟨A', c', w', hrun, h2, (Below.refl base wr).grown h3 hbase (fun k hk => (World.ownsRow.lt hown k hk).1)⟩
/-- append under a guard that lets it, its run known. -/
theorem wpList_appendG {P : Program} (w : World) {ops : Array Oper} {rest : List Oper} {o : Oper} {a : Act} {Q : Exit → Act → World → Prop} (hw : Region.wanted o (yielded ops a.tmps) = true) (s x : Operand) (t tn : TypeId)
    (ho : o.op = .call { callee := .builtin .append, args := #[s, x], argTypes := #[t, tn] }) (vs vx : Value) (hs : a.eval s = vs) (hx : a.eval x = vx)
    (v' : Value) (w' : World) (hr : (Builtin.append_ #[t, tn] o.type #[vs, vx]).run P w = .ok v' w') (h : wpList P ops Q rest (a.put o.dst v') w') : wpList P ops Q (o :: rest) a w := by
  show (if Region.wanted o (yielded ops a.tmps) then o.wp P a w (wpList P ops Q rest) Q ∨ (o.asks P a w ∧ LetsOut Q) else wpList P ops Q rest (a.put o.dst undef) w)
  rw [if_pos hw]
  exact .inl (Lib.wp_append_run w s x t tn ho vs vx hs hx v' w' hr h)

set_option maxRecDepth 100000 in
set_option maxHeartbeats 4000000 in
theorem walk (w : World) (v : Value) (l : List Chd) (hr : ReadsIt w w.heap.size v l) (hok : ∀ x ∈ l, x.ok) (hl : l.length ≤ 35184372088832) (i : Int) (hi : IsInt i) (x : Chd) (hx : x.ok) :
    Calls Try.prog 3 #[v, .int .i64 i, iagg x] w fun e w' => e = .returned (.bool true) ∧ Below w.heap.size w w' := by
  obtain ⟨A, c, rfl⟩ := hr.form
  obtain ⟨W0, hW0⟩ : ∃ W0, W0 = w.alloc (iobj x) := ⟨_, rfl⟩
  have hb0 : Below w.heap.size w W0 := by subst hW0; exact (Below.refl _ _).alloc (Nat.le_refl _) _
  have h0 : IBox W0 w.heap.size x := by subst hW0; exact Has.made _ _ _
  have hr0 := hr.grow hb0 hb0.size
  have hP := put_any _ l W0 hr0 hl
  have HAL := Lib.hid (fun W => alive9_any W)
  have HR := Lib.hid (And.intro hr (And.intro hb0 (And.intro h0 hok)))
  have HW0 := Lib.hid hW0
  have hsmall : Hid (putE l = 0 → l.length ≤ 200) := Lib.hid (fun h => by
    obtain ⟨h1, h2⟩ := putE_ok h
    have h3 : ∀ l : List Chd, 2 * l.length ≤ sz l := by
      intro l
      induction l with
      | nil => simp
      | cons x l ih =>
        have := item_two x
        rw [sz_cons, List.length_cons]
        omega
    have := h3 l
    omega)
  obtain ⟨S1, hS1⟩ : ∃ S : ByteArray, (⟨(putB l).toArray⟩ : ByteArray) = S := ⟨_, rfl⟩
  obtain ⟨E1, hE1⟩ : ∃ E, putE l = E := ⟨_, rfl⟩
  rw [hS1, hE1] at hP
  rw [hE1] at hsmall
  have HE := Lib.hid hE1
  clear hr hb0 h0 hok hr0 hS1 hE1
  go_enter Try.func3, Try.ntmps3
  go_wp2_with fail
  rw [← HW0.out]
  refine hP.mono ?_
  rintro e w1 ⟨rfl, hb1⟩
  have hbox1 := HR.out.2.2.1.below hb1 HR.out.2.2.1.inside
  obtain ⟨c0, c1⟩ := has_box hbox1
  have H1 := Lib.hid (And.intro (HR.out.2.1.trans (hb1.mono HR.out.2.1.size)) hbox1)
  clear hP hb1 hbox1 hW0
  by_cases hin : E1 = 0 ∧ 0 ≤ i ∧ i < (l.length : Int) ∧ (1 : Int) ≤ x.key.size ∧ (x.key.size : Int) ≤ 40 ∧ 2 ≤ x.page ∧ x.page ≤ 4294967295
  · obtain ⟨e1, hi0, hil, hk1, hk2, hp1, hp2⟩ := hin
    subst e1
    obtain ⟨n, rfl⟩ : ∃ n : Nat, i = n := ⟨i.toNat, by omega⟩
    have hnl : n < l.length := by omega
    have hl200 : (l.length : Int) ≤ 200 := by have := hsmall.out rfl; omega
    obtain ⟨ok1, s1⟩ := putE_ok HE.out
    have hl0 : l[0].key = ⟨#[]⟩ := ok1.head (by omega)
    have hrx : rightB x = true := decide_eq_true ⟨hp1, hp2, by omega⟩
    have hix := (right_len hrx).1
    have hM := two_is hnl x hl0
    have hMs := two_sz hnl x
    have hMl := two_len hnl x
    have hMr := two_right hnl ok1.2.1 hrx
    have hMh := two_head hnl x hl0
    have HLC := Lib.hid (fun W (hW : Below w.heap.size w W) => show ∃ b off, A = some ⟨b, off, none⟩ ∧ W.cell? ⟨b, off + n * 2, none⟩ = some (.string l[n].key) ∧ W.cell? ⟨b, off + n * 2 + 1, none⟩ = some (.int .i64 l[n].page) from by
      obtain ⟨A', c', hv, _, _, _, hc⟩ := HR.out.1
      cases hv
      obtain ⟨b, off, hA, hbb, hcell⟩ := hc (by omega)
      exact ⟨b, off, hA, (hcell.below hW hbb) n hnl⟩)
    have hnr : rightB l[n] = true := ok1.2.1 _ (List.getElem_mem hnl)
    have hkr : ∀ y, rightB y = true → y.key.size ≤ 281474976710656 := fun y hy => by
      obtain ⟨_, _, h3⟩ := right_cases hy
      omega
    have hC := fun W g (hb : Below w.heap.size w W) (d0 : W.cell? ⟨g, 0, none⟩ = some (.string l[n].key)) (d1 : W.cell? ⟨g, 1, none⟩ = some (.int .i64 l[n].page)) (d2 : W.cell? ⟨g, 2, none⟩ = some (.string x.key)) (d3 : W.cell? ⟨g, 3, none⟩ = some (.int .i64 x.page)) => replace_any (.slice A l.length c) (.slice (some ⟨g, 0, none⟩) 2 2) l [l[n], x] n W (HR.out.1.grow hb hb.size) (reads_two (W := W) (g := g) d0 d1 d2 d3) ⟨by omega, by omega⟩ (by omega) (by simp) (fun y hy => hkr y (ok1.2.1 y hy)) (fun y hy => by
      simp at hy
      rcases hy with rfl | rfl
      · exact hkr _ hnr
      · exact hkr _ hrx)
    rw [hM] at hC
    obtain ⟨b1, o1, hA1, q0, q1⟩ := HLC.out w1 H1.out.1
    subst hA1
    have HC := Lib.hid hC
    generalize hMM : l.take n ++ (l[n] :: x :: l.drop (n + 1)) = M at *
    have HM := Lib.hid (And.intro hMr (And.intro hMh (And.intro (show sz M ≤ 286 by omega) hMl)))
    have HKR := Lib.hid hkr
    generalize hz : l[n] = z at *
    have HZZ := Lib.hid (And.intro hz hMM)
    obtain ⟨nM, hnM⟩ : ∃ nM, M.length = nM := ⟨_, rfl⟩
    simp only [hnM] at HC
    have HN := Lib.hid hnM
    rw [hnM] at hMl
    clear hM hMs hMr hMh hMM hz hC hkr hnr hl0 hrx hix ok1 s1 hnM
    have hnI : (n : Int) < l.length := by omega
    have hn0 : (0 : Int) ≤ n := by omega
    have hqe : ((nM : Int) != (l.length : Int) + 1) = false := by rw [bne_eq_false_iff_eq]; omega
    have hnM1 : (nM : Int) ≤ 201 := by omega
    have hnM2 : (1 : Int) < nM := by omega
    clear hMl
    have hbb1 := World.block_lt_of_cell? w1 _ q0
    have hbb2 := World.block_lt_of_cell? w1 _ c0
    have hheld : ∀ W, Below w1.heap.size w1 W → W.cell? ⟨b1, o1 + n * 2, none⟩ = some (.string z.key) ∧ W.cell? ⟨b1, o1 + n * 2 + 1, none⟩ = some (.int .i64 z.page) ∧ W.cell? ⟨w.heap.size, 0, none⟩ = some (.string x.key) ∧ W.cell? ⟨w.heap.size, 1, none⟩ = some (.int .i64 x.page) := fun W hb =>
      ⟨(hb.cell (p := ⟨b1, o1 + n * 2, none⟩) hbb1).trans q0, (hb.cell (p := ⟨b1, o1 + n * 2 + 1, none⟩) hbb1).trans q1, (hb.cell (p := ⟨w.heap.size, 0, none⟩) hbb2).trans c0, (hb.cell (p := ⟨w.heap.size, 1, none⟩) hbb2).trans c1⟩
    have HHE := Lib.hid hheld
    have hr1 := Below.refl w1.heap.size w1
    have hC2 := fun W g (hb : Below w1.heap.size w1 W) d0 d1 d2 d3 => (HC.out W g (H1.out.1.trans (hb.mono H1.out.1.size)) d0 d1 d2 d3).mono (fun e w' h => by
      obtain ⟨v', he, ho, hb'⟩ := h
      exact (⟨v', he, row_lower ho hb.size, hb.trans (hb'.mono hb.size)⟩ : ∃ v', e = .returned v' ∧ w'.ownsRow w1.heap.size 24 2 v' nM (ilist M) ∧ Below w1.heap.size w1 w'))
    have HC2 := Lib.hid hC2
    clear hheld hbb1 hbb2 hC2
    go_wp2_with fail
    go_region_held3 (fun w' => w'.cell? ⟨b1, o1 + n * 2, none⟩ = some (.string z.key) ∧ w'.cell? ⟨b1, o1 + n * 2 + 1, none⟩ = some (.int .i64 z.page) ∧ w'.cell? ⟨w.heap.size, 0, none⟩ = some (.string x.key) ∧ w'.cell? ⟨w.heap.size, 1, none⟩ = some (.int .i64 x.page))
      (first | (refine ⟨?_, ?_, ?_, ?_⟩ <;> assumption) | exact HHE.out _ (by repeat (first | assumption | (refine Below.drew ?_) | (refine below_allocC ?_ _)))) (first
      | (go_at_call 9; ((with_reducible refine (HC2.out _ _ (by repeat (first | assumption | (refine Below.drew ?_) | (refine below_allocC ?_ _))) ?_ ?_ ?_ ?_).mono ?_)); (go_simp); (go_simp); (go_simp); (go_simp); rintro e w4 ⟨v4, rfl, hown4, hb4⟩))
    have hfm : ∃ g4 c4, v4 = .slice (some ⟨g4, 0, none⟩) nM c4 := by
      rcases hown4.2 with ⟨rfl, h⟩ | ⟨g, cap, cur, rfl, _⟩
      · omega
      · exact ⟨g, cap, rfl⟩
    obtain ⟨g4, c4, rfl⟩ := hfm
    have hown4' : w4.ownsRow w1.heap.size 24 2 (.slice (some ⟨g4, 0, none⟩) nM c4) M.length (ilist M) := by rw [HN.out]; exact hown4
    have hr4 := row_readsIt hown4'
    rw [HN.out] at hown4'
    have hM2 : 1 < M.length := by have := HN.out; omega
    have hcM : w4.cell? ⟨g4, 2, none⟩ = some (.string M[1].key) := (hown4.cellAt 2 (by omega)).trans (ilist_at hM2 0 (by omega))
    have hok4 : ∀ y ∈ M, y.key.size ≤ 9223372036854775807 := fun y hy => by have := HKR.out y (HM.out.1 y hy); omega
    have hri := rises_any _ M w4 hr4 hok4
    have hw4 := H1.out.1.trans (hb4.mono H1.out.1.size)
    have hgg4 := (hown4.lt g4 rfl).2
    have hm0 := HM.out.2.1 (by omega)
    have H4 := Lib.hid (And.intro hw4 (And.intro hr4 hgg4))
    obtain ⟨k1, hkk⟩ : ∃ k1, M[1].key = k1 := ⟨_, rfl⟩
    rw [hkk] at hcM
    have HMM : Hid (∃ h : 1 < M.length, (M[0]'(Nat.lt_of_succ_lt h)).key = ⟨#[]⟩ ∧ M[1].key = k1) := Lib.hid ⟨hM2, hm0, hkk⟩
    clear hown4 hown4' hr4 hok4 hb4 hw4 hm0 hM2 hkk c0 c1 q0 q1 hr1
    go_wp2_with fail
    refine hri.mono ?_
    rintro e w5 ⟨rfl, hb5⟩
    have HBB := Lib.hid (H4.out.1.trans (hb5.mono H4.out.1.size))
    have hcM5 := (hb5.cell (p := ⟨g4, 2, none⟩) hgg4).trans hcM
    have HB5 := Lib.hid hb5
    clear hri hb5 hcM
    by_cases hrise : Rise (M.drop 1)
    · have hd : decide (Rise (M.drop 1)) = true := decide_eq_true hrise
      rw [hd]
      clear hd
      by_cases hk0 : k1 = ⟨#[]⟩
      · subst hk0
        go_wp2_with fail
        refine (HAL.out _).mono ?_
        rintro e wa ⟨rfl, hba⟩
        have HZ := Lib.hid (HBB.out.trans (hba.mono HBB.out.size))
        clear hba
        go_wp2_with fail
        go_ret
        exact ⟨rfl, HZ.out⟩
      · obtain ⟨hM2, hm0, hkk⟩ := HMM.out
        have hrM : Rise M := rise_all hM2 hm0 (by rw [hkk]; exact hk0) hrise
        have hokM : OKL M := okl_is (Nat.lt_of_succ_lt hM2) hm0 HM.out.1 hrM
        have hne : (k1.toList == ([] : List UInt8)) = false := by
          rw [beq_eq_false_iff_ne]
          intro h
          exact hk0 (toList_inj (h.trans (by rw [Lib.toList_data])))
        have hr5 := H4.out.2.1.grow HB5.out HB5.out.size
        have hF := fits_any _ M w5 hr5 (by have := HN.out; omega)
        have HOK := Lib.hid (And.intro hrM hokM)
        have H5 := Lib.hid hr5
        clear hk0 hrise hm0 hkk hM2 hrM hokM hr5
        by_cases hfit : sz M ≤ 240
        · rw [decide_eq_true ⟨HOK.out.2, hfit⟩] at hF
          clear hfit
          go_wp2_with fail
          refine hF.mono ?_
          rintro e w6 ⟨rfl, hb6⟩
          have HBB := Lib.hid (HBB.out.trans (hb6.mono HBB.out.size))
          clear hb6 hcM5 hF
          go_wp2_with fail
          refine (HAL.out _).mono ?_
          rintro e wa ⟨rfl, hba⟩
          have HZ := Lib.hid (HBB.out.trans (hba.mono HBB.out.size))
          clear hba
          go_wp2_with fail
          go_ret
          exact ⟨rfl, HZ.out⟩
        · rw [decide_eq_false (fun h => hfit h.2)] at hF
          obtain ⟨k2, hA, hB⟩ := half_fits HM.out.1 (by omega) HM.out.2.2.1
          have hhl := half_in k2
          have hcat : M.take (halfL M) ++ M.drop (halfL M) = M := List.take_append_drop _ _
          have okA := okl_take HOK.out.2 (n := halfL M) (by omega)
          have lA : (M.take (halfL M)).length = halfL M := by rw [List.length_take]; omega
          have lB : (M.drop (halfL M)).length = M.length - halfL M := List.length_drop
          have okC := okl_off (l := M.drop (halfL M)) (fun y hy => HM.out.1 y (List.mem_of_mem_drop hy)) (HOK.out.1.drop _) (by omega)
          have szC := sz_first (M.drop (halfL M))
          obtain ⟨kb, hkb', hfs⟩ : ∃ kb : Chd, (M.drop (halfL M))[0]? = some kb ∧ fnd M kb.key = halfL M := ⟨M[halfL M]'hhl.2.1, by rw [List.getElem?_drop, Nat.add_zero]; exact List.getElem?_eq_getElem hhl.2.1, fnd_self HOK.out.1 hhl.2.1⟩
          have HKB : Hid ((M.drop (halfL M))[0]? = some kb ∧ fnd M kb.key = halfL M) := Lib.hid ⟨hkb', hfs⟩
          clear hkb' hfs
          generalize hLA : M.take (halfL M) = LA at *
          generalize hLB : M.drop (halfL M) = LB at *
          have HL := Lib.hid (And.intro hLA hLB)
          have hla1 : 1 ≤ LA.length := by omega
          have hla2 : LA.length ≤ 201 := by have := HN.out; omega
          have hlb1 : 1 ≤ LB.length := by omega
          have hlb2 : LB.length ≤ 201 := by have := HN.out; omega
          have HH := Lib.hid (And.intro okA (And.intro hA (And.intro okC (And.intro (Nat.le_trans szC hB) (And.intro hcat lA)))))
          have hff : (LB.length : Int) = ((first LB).length : Int) := by rw [first_len]
          clear hLA hLB okA hA okC szC hB hcat lA lB hhl k2 hff
          go_wp2_with fail
          refine hF.mono ?_
          rintro e w6 ⟨rfl, hb6⟩
          have hr6 := H5.out.grow hb6 hb6.size
          have hP := split_any _ M w6 hr6 (fun y hy => right_ok (HM.out.1 y hy)) (by have := HM.out.2.2.1; omega) (by have := HN.out; omega) (fun y hy => HKR.out y (HM.out.1 y hy))
          rw [HL.out.1, HL.out.2] at hP
          have HB6 := Lib.hid (And.intro (HBB.out.trans (hb6.mono HBB.out.size)) hr6)
          clear hF hb6 hr6 hcM5
          go_wp2_with fail
          refine hP.mono ?_
          rintro e w7 ⟨v7, v8, rfl, hown7, hown8, _, hb7⟩
          have hr7 := row_readsIt hown7
          have hr8 := row_readsIt hown8
          have hrM := HB6.out.2.grow hb7 hb7.size
          have hw7 := HB6.out.1.trans (hb7.mono HB6.out.1.size)
          obtain ⟨A7, c7, hA7⟩ := hr7.form
          have hf8 : ∃ g8 c8, v8 = .slice (some ⟨g8, 0, none⟩) LB.length c8 := by
            rcases hown8.2 with ⟨rfl, h⟩ | ⟨g, cap, cur, rfl, _⟩
            · omega
            · exact ⟨g, cap, rfl⟩
          obtain ⟨g8, c8, hA8⟩ := hf8
          subst hA7 hA8
          have hnil := World.ownsRow_nil w7 w7.heap.size 24 2
          have hab : ([] : List Chd).length + LA.length ≤ 1000000 := by simp; omega
          obtain ⟨A9, c9, w9, hrun9, hown9, hb9⟩ := run_its hnil hr7 (by omega) hab (Nat.le_refl _) 22
          rw [List.nil_append] at hrun9 hown9
          obtain ⟨A10, c10, w10, hrun10, hown10, hb10⟩ := run_its hown9 (hr8.grow hb9 hb9.size) (by omega) (by omega) hb9.size 22
          have hr10 := row_readsIt hown10
          rw [HH.out.2.2.2.2.1] at hrun10 hr10
          have hb710 : Below w7.heap.size w7 w10 := hb9.trans hb10
          have hSI := sameItems_any _ _ M w10 hr10 (hrM.grow hb710 hb710.size) (by have := HN.out; omega)
          rw [HN.out] at hSI hrun10
          have HR9 := Lib.hid hrun9
          have HR10 := Lib.hid hrun10
          have H7 := Lib.hid (And.intro hw7 (And.intro hr7 (And.intro hr8 (And.intro hrM (And.intro hown8 hb710)))))
          have hlaI : ((LA.length : Int) == 0) = false := by rw [beq_eq_false_iff_ne]; omega
          have hlbI : ((LB.length : Int) == 0) = false := by rw [beq_eq_false_iff_ne]; omega
          clear hP hown7 hown8 hr7 hr8 hrM hw7 hb7 hnil hab hrun9 hrun10 hown9 hown10 hb9 hb10 hr10 hb710
          go_wp2_with (at_builtin; first
            | (refine wpList_appendG w7 (by kernel_rfl) _ _ 22 22 rfl (.slice none 0 0) (.slice A7 LA.length c7) rfl rfl _ _ HR9.out ?_)
            | (refine wpList_appendG w9 (by kernel_rfl) _ _ 22 22 rfl (.slice A9 LA.length c9) (.slice (some ⟨g8, 0, none⟩) LB.length c8) rfl rfl _ _ HR10.out ?_))
          refine hSI.mono ?_
          rintro e w11 ⟨rfl, hb11⟩
          have hb711 : Below w7.heap.size w7 w11 := H7.out.2.2.2.2.2.trans (hb11.mono H7.out.2.2.2.2.2.size)
          obtain ⟨A12, c12, w12, hrun12, hown12, hb12⟩ := run_its (xs := []) (World.ownsRow_nil w11 w11.heap.size 24 2) (H7.out.2.2.1.grow hb711 hb711.size) (by omega) (by simp; omega) (Nat.le_refl _) 22
          rw [List.nil_append] at hrun12 hown12
          have hg12 : ∃ g, A12 = some ⟨g, 0, none⟩ := by
            rcases hown12.2 with ⟨_, h⟩ | ⟨g, cap, cur, h, _⟩
            · omega
            · cases h; exact ⟨g, rfl⟩
          obtain ⟨g12, rfl⟩ := hg12
          have hst := (hown12.stored 0 (.string ⟨#[]⟩)).1
          rw [ilist_first (by omega)] at hst
          have hfz := hown12.frozenAt 0
          obtain ⟨u0, hc0⟩ : ∃ u, w12.cell? ⟨g12, 0, none⟩ = some u := by
            have h2 : 0 < (ilist LB).length := by rw [length_ilist]; omega
            exact ⟨_, (hown12.cellAt 0 (by omega)).trans (List.getElem?_eq_getElem h2)⟩
          have hgl := (hown12.lt g12 rfl).1
          have hw712 : Below w7.heap.size w7 (w12.setCell ⟨g12, 0, none⟩ (.string ⟨#[]⟩)) := (hb711.trans (hb12.mono hb711.size)).setCell (p := ⟨g12, 0, none⟩) (by have := hb711.size; simp; omega) _
          have HR12 := Lib.hid hrun12
          have H12 := Lib.hid (And.intro hst hw712)
          clear hSI HR9 HR10 hb11 hb711 hrun12 hown12 hb12 hst hw712 hgl
          go_wp2_with (at_builtin; refine wpList_appendG w11 (by kernel_rfl) _ _ 22 22 rfl (.slice none 0 0) (.slice (some ⟨g8, 0, none⟩) LB.length c8) rfl rfl _ _ HR12.out ?_)
          obtain ⟨w13, hw13⟩ : ∃ w13, w13 = w12.setCell ⟨g12, 0, none⟩ (.string ⟨#[]⟩) := ⟨_, rfl⟩
          rw [← hw13]
          obtain ⟨hst, hw712⟩ := H12.out
          rw [← hw13] at hst hw712
          have hst' : w13.ownsRow w11.heap.size 24 2 (.slice (some ⟨g12, 0, none⟩) LB.length c12) (first LB).length (ilist (first LB)) := by rw [first_len]; exact hst
          have hr13 := row_readsIt hst'
          have H13 := Lib.hid (And.intro hw712 hr13)
          clear hst hst' hw712 hr13 hw13 hfz hc0 HR12
          refine (HAL.out _).mono ?_
          rintro e w14 ⟨rfl, hb14⟩
          have hb714 := H13.out.1.trans (hb14.mono H13.out.1.size)
          have hFA := fits_any _ LA w14 (H7.out.2.1.grow hb714 hb714.size) (by omega)
          rw [decide_eq_true ⟨HH.out.1, HH.out.2.1⟩] at hFA
          have H14 := Lib.hid (And.intro hb714 (H13.out.2.grow hb14 hb14.size))
          clear hb14 hb714
          go_wp2_with fail
          refine hFA.mono ?_
          rintro e w15 ⟨rfl, hb15⟩
          have hrC := H14.out.2.grow hb15 hb15.size
          have hFC := fits_any _ (first LB) w15 hrC (by rw [first_len]; omega)
          rw [decide_eq_true ⟨HH.out.2.2.1, HH.out.2.2.2.1⟩] at hFC
          have H15 := Lib.hid (H14.out.1.trans (hb15.mono H14.out.1.size))
          clear hFA hb15 hrC
          go_wp2_with fail
          refine hFC.mono ?_
          rintro e w16 ⟨rfl, hb16⟩
          have hb716 := H15.out.trans (hb16.mono H15.out.size)
          have hrM := H7.out.2.2.2.1.grow hb716 hb716.size
          have hown8 := row_kept (F := []) H7.out.2.2.2.2.1 (Kept.of_below hb716) (fun _ _ h => by simp at h)
          have hcb : w16.cell? ⟨g8, 0, none⟩ = some (.string kb.key) := by
            obtain ⟨h0, h1⟩ := List.getElem?_eq_some_iff.1 HKB.out.1
            have h2 := ilist_at h0 0 (by omega)
            rw [h1] at h2
            exact (hown8.cellAt 0 (by omega)).trans h2
          have hFM := find_any _ M kb.key w16 hrM (HOK.out.1.drop 1) (by have := HN.out; omega)
          rw [HKB.out.2, ← HH.out.2.2.2.2.2] at hFM
          have H16 := Lib.hid (H7.out.1.trans (hb716.mono H7.out.1.size))
          clear hFC hb16 hb716 hrM hown8
          go_wp2_with fail
          refine hFM.mono ?_
          rintro e w17 ⟨rfl, hb17⟩
          have H17 := Lib.hid (H16.out.trans (hb17.mono H16.out.size))
          clear hFM hb17 hcb
          go_wp2_with fail
          go_ret
          exact ⟨rfl, H17.out⟩
    · have hd : decide (Rise (M.drop 1)) = false := decide_eq_false hrise
      rw [hd]
      clear hd hrise
      go_wp2_with fail
      refine (HAL.out _).mono ?_
      rintro e wa ⟨rfl, hba⟩
      have HZ := Lib.hid (HBB.out.trans (hba.mono HBB.out.size))
      clear hba
      go_wp2_with fail
      go_ret
      exact ⟨rfl, HZ.out⟩
  · go_wp2_with fail
    all_goals
      first
        | (refine (HAL.out _).mono ?_
           rintro e w3 ⟨rfl, hb3⟩
           go_wp2_with fail
           go_ret
           exact ⟨rfl, H1.out.1.trans (hb3.mono H1.out.1.size)⟩)
        | (exfalso; omega)

set_option maxRecDepth 100000 in
theorem lifted (os : Os) (started : os.Started) (H : Type) (enc : TypeId × Value → H) :
    ReturnsInHanded {} Try.checked os 3 .any (Rows.branchFitsSpec.pre6 enc Try.prog Try.f3 Rows.branchFitsRow.domain false) (Rows.branchFitsSpec.post enc Try.prog Try.f3 false true false false) := by
  refine returnsInHanded_of_change_sized (C := Try.checked) own started (by kernel_rfl) Try.func3
    (ChangeSpec.witness6 (enc := enc) (C := Try.checked) false ⟨#[], #[.slice none 0 0, .int .i64 0, .agg #[.string ByteArray.empty, .int .i64 0]], []⟩ 8 (by kernel_rfl) (by kernel_rfl) (by kernel_rfl) (by kernel_rfl)) ?_
  intro W base args ds gs before hval0 hW hcnd hsz0 _
  have hsz : (DataW.weightsEach Try.prog (Try.f3.params.toList ++ Rows.branchFitsSpec.plain.varTypes Try.prog) (ds ++ gs)).all (· ≤ reachBytes) = true := hsz0
  have hval : ∀ (j : Nat) t v, Try.f3.params[j]? = some t → args[j]? = some v → Value.okWide Try.prog W .any base t v := hval0
  have hW' := hW
  obtain ⟨p, q, hA0, hV, rfl, hfz, hnd⟩ := hW
  have hA : DataW.TrodAll enc Try.prog W 0 (fun _ => true) true Try.f3.params.toList args.toList ds p := hA0
  rw [Try.params3] at hA hval hsz
  obtain ⟨v0, vs0, d0, ds0, p0, q0, hargs, rfl, rfl, h0, r00⟩ := trodAll_cons hA
  obtain ⟨v1, vs1, d1, ds1, p1, q1, rfl, rfl, rfl, h1, r01⟩ := trodAll_cons r00
  obtain ⟨v2, vs2, d2, ds2, p2, q2, rfl, rfl, rfl, h2, r02⟩ := trodAll_cons r01
  obtain ⟨rfl, rfl, rfl⟩ := trodAll_nil r02
  obtain rfl : args = #[v0, v1, v2] := by cases args; simp_all
  obtain ⟨rfl, rfl⟩ := trodVars_none hV
  obtain ⟨l0, r0, i0, m0⟩ := reads_children (hval 0 22 v0 rfl rfl) h0
  obtain ⟨n1, rfl, rfl, rfl, w1⟩ := open_int Try.underlying3 (hval 1 3 v1 rfl rfl) h1
  obtain ⟨x2, rfl, i2⟩ := open_child (hval 2 24 v2 rfl rfl) h2
  clear hA0 hval0 hsz0
  refine (walk W v0 l0 r0 i0 (children_sized hsz (j := 0) rfl rfl m0) n1 (isInt_of_wf w1) x2 i2).mono fun e W' ⟨he, hb⟩ => ?_
  subst he
  exact ⟨_, rfl, law_post hW' rfl rfl (by kernel_rfl) (by kernel_rfl) hb⟩

theorem said : Rows.BranchFitsSaid :=
  OpenClaim.holds_of_wide 3 Try.f3 rfl rfl rfl rfl rfl rfl rfl ⟨rfl, rfl, rfl, rfl, rfl⟩ rfl rfl rfl rfl rfl (by kernel_rfl) Try.func3 (by kernel_rfl)
    (of_decide_eq_true (by kernel_rfl)) (by unfold Func.isWrapper; first | (rw [if_pos (by decide +kernel)]; kernel_rfl) | (rw [if_neg (by decide +kernel)]; exact ⟨rfl, rfl⟩))
    (fun os started H enc _ => lifted os started H enc)
end Go.Proofs.Ytpfifmjcmpankaa.BR.branchFits
