/-
  LeafFits (P803): of items that fit, with one more that is right, both parts fit; each item stands in one of them, in order. For every items and every item.
-/
import Derived.Test.YtbhacdoeacblpaaLA8
import Derived.Test.YtbhacdoeacblpaaLB1
import Derived.Test.YtbhacdoeacblpaaFrameI
namespace Go.Proofs.Ytbhacdoeacblpaa.leafFits
open Go.ChangeShapes Go.WideShapes Go.ChangeAt Go.RowKit

theorem putE_ok {l : List Itm} (h : putE l = 0) : OKL l ∧ sz l ≤ 240 := by
  unfold putE at h
  split at h
  · rename_i h1
    split at h
    · rename_i h2; exact ⟨h1, h2⟩
    · simp at h
  · simp at h
theorem setL_okl {l : List Itm} {x : Itm} (h : OKL l) (hx : rightB x = true) : OKL (setL l x) := by
  refine ⟨fun y hy => ?_, setL_rise h.2 x⟩
  unfold setL at hy
  simp only [List.mem_append, List.mem_cons] at hy
  rcases hy with hy | rfl | hy
  · exact h.1 y (List.mem_of_mem_take hy)
  · exact hx
  · exact h.1 y (List.mem_of_mem_drop hy)
theorem setL_sz (l : List Itm) (x : Itm) : sz (setL l x) ≤ sz l + (itemB x).length := by
  unfold setL
  rw [sz_append, sz_cons]
  have h1 := (sz_take l (lb l x.key)).2
  have h2 := (behind_le l x.key).2
  have h3 : l.drop (behind l x.key) = (l.drop (lb l x.key)).drop (behind l x.key - lb l x.key) := by rw [List.drop_drop]; congr 1; omega
  have h4 := (sz_take (l.drop (lb l x.key)) (behind l x.key - lb l x.key)).2
  rw [h3]
  omega

/-- append(row, v...) of items, as a run. -/
theorem run_its {wr : World} {base : Nat} {d : Value} {xs : List Itm} (hown : wr.ownsRow base 24 4 d xs.length (ilist xs)) {B : Nat} {v : Value} {l : List Itm} (hr : ReadsIt wr B v l) (h0 : 0 < l.length) (hlen : xs.length + l.length ≤ 1000000) (hbase : base ≤ wr.heap.size) (ty : TypeId) :
    ∃ A c w', (Builtin.append_ #[22, 22] ty #[d, v]).run Try.prog wr = .ok (.slice A (xs ++ l).length c) w' ∧ w'.ownsRow base 24 4 (.slice A (xs ++ l).length c) (xs ++ l).length (ilist (xs ++ l)) ∧ Below base wr w' := by
  obtain ⟨i0, hi, hz0, hz1, hz2⟩ := info_parts Try.infoItem
  obtain ⟨A, c, rfl, _, _, hnil, hc⟩ := hr
  obtain ⟨b, off, rfl, _, hcell⟩ := hc h0
  have hcells : ∀ j u, (ilist l)[j]? = some u → wr.cell? ((⟨b, off, none⟩ : Addr).add j) = some u := by
    intro j u hu
    rw [Go.WideShapes.add_plain]
    exact hcell.list j u hu
  obtain ⟨v', w', hrun, h2, h3, _⟩ := run_append_own (P := Try.prog) wr base 22 ty 24 i0 _ 4 48 Try.underlying22 hi hz0 hz1 hz2 rfl (by decide) d xs.length (ilist xs) hown ⟨b, off, none⟩ l.length c (ilist l) (length_ilist l) hcells (ilist_one l) (by unfold maxLen; omega) (by omega) hbase
  rw [← ilist_append, ← List.length_append] at h2
  obtain ⟨A', c', hv⟩ := (row_readsIt h2).form
  subst hv
  exact ⟨A', c', w', hrun, h2, (Below.refl base wr).grown h3 hbase (fun k hk => (World.ownsRow.lt hown k hk).1)⟩

/-- append under a guard that lets it, its run known. -/
theorem wpList_appendG {P : Program} (w : World) {ops : Array Oper} {rest : List Oper} {o : Oper} {a : Act} {Q : Exit → Act → World → Prop} (hw : Region.wanted o (yielded ops a.tmps) = true) (s x : Operand) (t tn : TypeId)
    (ho : o.op = .call { callee := .builtin .append, args := #[s, x], argTypes := #[t, tn] }) (vs vx : Value) (hs : a.eval s = vs) (hx : a.eval x = vx)
    (v' : Value) (w' : World) (hr : (Builtin.append_ #[t, tn] o.type #[vs, vx]).run P w = .ok v' w') (h : wpList P ops Q rest (a.put o.dst v') w') : wpList P ops Q (o :: rest) a w := by
  show (if Region.wanted o (yielded ops a.tmps) then o.wp P a w (wpList P ops Q rest) Q ∨ (o.asks P a w ∧ LetsOut Q) else wpList P ops Q rest (a.put o.dst undef) w)
  rw [if_pos hw]
  exact .inl (Lib.wp_append_run w s x t tn ho vs vx hs hx v' w' hr h)

set_option maxRecDepth 100000 in
set_option maxHeartbeats 4000000 in
theorem walk (w : World) (v : Value) (l : List Itm) (hr : ReadsIt w w.heap.size v l) (hok : ∀ x ∈ l, x.ok) (hl : l.length ≤ 35184372088832) (x : Itm) (hx : x.ok) :
    Calls Try.prog 3 #[v, iagg x] w fun e w' => e = .returned (.bool true) ∧ Below w.heap.size w w' := by
  obtain ⟨A, c, rfl⟩ := hr.form
  obtain ⟨W0, hW0⟩ : ∃ W0, W0 = w.alloc (iobj x) := ⟨_, rfl⟩
  have hb0 : Below w.heap.size w W0 := by subst hW0; exact (Below.refl _ _).alloc (Nat.le_refl _) _
  have h0 : IBox W0 w.heap.size x := by subst hW0; exact Has.made _ _ _
  have hr0 := hr.grow hb0 hb0.size
  have hP := put_any _ l W0 hr0 hl
  have HAL := Lib.hid (fun W => alive8_any W)
  have HX := Lib.hid (fun W g (hc : W.cell? ⟨g, 0, none⟩ = some (.string x.key) ∧ W.cell? ⟨g, 1, none⟩ = some (.string x.val) ∧ W.cell? ⟨g, 2, none⟩ = some (.int .i64 x.over) ∧ W.cell? ⟨g, 3, none⟩ = some (.int .i64 x.size)) =>
    put_any (.slice (some ⟨g, 0, none⟩) 1 1) [x] W ⟨_, 1, rfl, Nat.le_refl _, by unfold maxLen; omega, fun e => (by cases e), fun _ => ⟨g, 0, rfl, World.block_lt_of_cell? W _ hc.1, fun i hi => by
      simp at hi
      subst hi
      simp only [Nat.zero_mul, Nat.add_zero, Nat.zero_add, List.getElem_cons_zero]
      exact hc⟩⟩ (by simp))
  have HR := Lib.hid (And.intro hr (And.intro hb0 (And.intro h0 hok)))
  have HW0 := Lib.hid hW0
  obtain ⟨S1, hS1⟩ : ∃ S : ByteArray, (⟨(putB l).toArray⟩ : ByteArray) = S := ⟨_, rfl⟩
  obtain ⟨S2, hS2⟩ : ∃ S : ByteArray, (⟨(putB [x]).toArray⟩ : ByteArray) = S := ⟨_, rfl⟩
  obtain ⟨E1, hE1⟩ : ∃ E, putE l = E := ⟨_, rfl⟩
  obtain ⟨E2, hE2⟩ : ∃ E, putE [x] = E := ⟨_, rfl⟩
  rw [hS1, hE1] at hP
  simp only [hS2, hE2] at HX
  have HE := Lib.hid (And.intro hE1 hE2)
  clear hr hb0 h0 hok hr0 hS1 hS2 hE1 hE2
  go_enter Try.func3, Try.ntmps3
  go_wp2_with fail
  rw [← HW0.out]
  refine hP.mono ?_
  rintro e w1 ⟨rfl, hb1⟩
  have hbox1 := HR.out.2.2.1.below hb1 HR.out.2.2.1.inside
  obtain ⟨c0, c1, c2, c3⟩ := has_box hbox1
  have H1 := Lib.hid (And.intro (HR.out.2.1.trans (hb1.mono HR.out.2.1.size)) hbox1)
  clear hP hb1 hbox1 hW0
  go_wp2_with fail
  refine (HX.out _ _ ?_).mono ?_
  · refine ⟨?_, ?_, ?_, ?_⟩ <;> go_simp
  rintro e w2 ⟨rfl, hb2⟩
  have hb12 : Below w1.heap.size w1 w2 := ((Below.refl _ _).alloc (Nat.le_refl _) _).trans (hb2.mono (by simp))
  have H2 := Lib.hid (And.intro (H1.out.1.trans (hb12.mono H1.out.1.size)) (H1.out.2.below hb12 H1.out.2.inside))
  clear hb2 hb12 c0 c1 c2 c3
  by_cases hin : E1 = 0 ∧ E2 = 0 ∧ (l.length : Int) ≤ 200
  · obtain ⟨e1, e2, hl200⟩ := hin
    subst e1 e2
    obtain ⟨ok1, s1⟩ := putE_ok HE.out.1
    obtain ⟨okx, sx⟩ := putE_ok HE.out.2
    have hrx : rightB x = true := okx.1 x (by simp)
    have hix := (right_len hrx).1
    have okm := setL_okl ok1 hrx
    have hszm := setL_sz l x
    have hlm := setL_len l x
    have hl2 : l.length ≤ 200 := by omega
    have hzr : ∀ y, rightB y = true → y.key.size ≤ 281474976710656 ∧ y.val.size ≤ 281474976710656 := fun y hy => by
      obtain ⟨h1, h2, h3⟩ := right_cases hy
      rcases h3 with ⟨_, _, h3⟩ | ⟨_, _, _, _, h3⟩
      · omega
      · rw [h3]
        have h4 : (⟨#[]⟩ : ByteArray).size = 0 := rfl
        omega
    have hS := set_any _ l x w2 (HR.out.1.grow H2.out.1 H2.out.1.size) ok1.2 (by omega) (fun y hy => by
      rcases List.mem_cons.1 hy with rfl | hy
      · exact hzr _ hrx
      · exact hzr _ (ok1.1 y hy))
    obtain ⟨c0, c1, c2, c3⟩ := has_box H2.out.2
    have HZR := Lib.hid hzr
    have HM := Lib.hid (And.intro okm (And.intro (show sz (setL l x) ≤ 343 by omega) (show (setL l x).length ≤ 201 by omega)))
    have hat := setL_at (l := l) x
    have hlb2 := setL_lb (l := l) x
    have his := setL_is (l := l) x
    generalize setL l x = M at *
    have HAT := Lib.hid (And.intro hat (And.intro hlb2 his))
    clear ok1 s1 okx sx hrx hix okm hszm hlm hl2 hzr hat hlb2 his HX
    go_wp2_with fail
    refine hS.mono ?_
    rintro e w3 ⟨v3, rfl, hown3, hb3⟩
    have hr3 := row_readsIt hown3
    have hF := fits_any v3 M w3 hr3 (by have := HM.out.2.2; omega)
    have hb3w := H2.out.1.trans (hb3.mono H2.out.1.size)
    have hbox3 := H2.out.2.below hb3 H2.out.2.inside
    have H3 := Lib.hid (And.intro hb3w (And.intro hbox3 hr3))
    obtain ⟨A3, c3', hA3⟩ := hr3.form
    subst hA3
    clear hS hown3 hr3 hb3w hbox3 hb3 c0 c1 c2 c3
    by_cases hfit : sz M ≤ 240
    · have hd : decide (OKL M ∧ sz M ≤ 240) = true := decide_eq_true ⟨HM.out.1, hfit⟩
      rw [hd] at hF
      clear hd
      obtain ⟨n, hn⟩ : ∃ n, M.length = n := ⟨_, rfl⟩
      have HN := Lib.hid hn
      rw [hn] at hF ⊢
      clear hn
      go_wp2_with fail
      refine hF.mono ?_
      rintro e w4 ⟨rfl, hb4⟩
      have hr4 := H3.out.2.2.grow hb4 hb4.size
      have hbox4 := H3.out.2.1.below hb4 H3.out.2.1.inside
      have hb4w := H3.out.1.trans (hb4.mono H3.out.1.size)
      have hG := find_any _ M x.key w4 hr4 HM.out.1.2 (by have := HM.out.2.2; omega)
      rw [HAT.out.2.1, HAT.out.2.2, HN.out] at hG
      obtain ⟨c0, c1, c2, c3⟩ := has_box hbox4
      have H4 := Lib.hid (And.intro hb4w (And.intro hbox4 hr4))
      obtain ⟨i, hi⟩ : ∃ i, lb l x.key = i := ⟨_, rfl⟩
      rw [hi] at hG
      have HI := Lib.hid hi
      clear hr4 hbox4 hb4w hb4 hF hi
      go_wp2_with fail
      refine hG.mono ?_
      rintro e w5 ⟨rfl, hb5⟩
      have hr5 := H4.out.2.2.grow hb5 hb5.size
      have hbox5 := H4.out.2.1.below hb5 H4.out.2.1.inside
      have hb5w := H4.out.1.trans (hb5.mono H4.out.1.size)
      have H5 := Lib.hid (And.intro hb5w (And.intro hbox5 hr5))
      clear hr5 hbox5 hb5w hb5 hG c0 c1 c2 c3
      go_wp2_with fail
      obtain ⟨c0, c1, c2, c3⟩ := has_box H5.out.2.1
      have hcl : ∃ b2 o2, A3 = some ⟨b2, o2, none⟩ ∧ i < n ∧ w5.cell? ⟨b2, o2 + i * 4, none⟩ = some (.string x.key) ∧ w5.cell? ⟨b2, o2 + i * 4 + 1, none⟩ = some (.string x.val) ∧ w5.cell? ⟨b2, o2 + i * 4 + 2, none⟩ = some (.int .i64 x.over) ∧ w5.cell? ⟨b2, o2 + i * 4 + 3, none⟩ = some (.int .i64 x.size) := by
        obtain ⟨hlt, hat⟩ := HAT.out.1
        obtain ⟨A', c', hv, _, _, _, h⟩ := H5.out.2.2
        simp only [Value.slice.injEq] at hv
        obtain ⟨rfl, _, _⟩ := hv
        obtain ⟨b2, o2, h1, _, h3⟩ := h (by omega)
        have h4 := h3 (lb l x.key) hlt
        rw [hat] at h4
        rw [← HI.out, ← HN.out]
        exact ⟨b2, o2, h1, hlt, h4⟩
      obtain ⟨b2, o2, hA3, hin, q0, q1, q2, q3⟩ := hcl
      subst hA3
      have hi0 : (0 : Int) ≤ i := by omega
      have hiI : (i : Int) < n := by omega
      have e0 := cell_gw c0
      have e1 := cell_gw c1
      have e2 := cell_gw c2
      have e3 := cell_gw c3
      have f0 := cell_gw q0
      have f1 := cell_gw q1
      have f2 := cell_gw q2
      have f3 := cell_gw q3
      refine wp_region_gw (by kernel_rfl) (by kernel_rfl) ?_
      repeat (refine wq_step (fun K hK => ?_); go_simp; first | (refine hK _ ?_; clear hK K) | (apply Exists.intro; refine ⟨fun _ => ?_, hK _ ?_⟩; (go_at_call 8; ((with_reducible exact Calls.gw_of (HAL.out _)))); clear hK K))
      refine wq_nil ?_
      intro w6 hw6
      replace hw6 := gw_to hw6
      clear e0 e1 e2 e3 f0 f1 f2 f3 c0 c1 c2 c3 q0 q1 q2 q3
      go_wp2
      go_ret
      exact ⟨rfl, H5.out.1.trans (hw6.mono H5.out.1.size)⟩
    · have hd : decide (OKL M ∧ sz M ≤ 240) = false := decide_eq_false (fun h => hfit h.2)
      rw [hd] at hF
      clear hd
      obtain ⟨k2, hA, hB⟩ := half_fits HM.out.1.1 (by omega) HM.out.2.1
      have hhl := half_in k2
      have hcat : M.take (halfL M) ++ M.drop (halfL M) = M := List.take_append_drop _ _
      have hszs := (sz_take M (halfL M)).2
      have okA := okl_take HM.out.1 (halfL M)
      have okB := okl_drop HM.out.1 (halfL M)
      have lA : (M.take (halfL M)).length = halfL M := by rw [List.length_take]; omega
      have lB : (M.drop (halfL M)).length = M.length - halfL M := List.length_drop
      obtain ⟨n, hn⟩ : ∃ n, M.length = n := ⟨_, rfl⟩
      have HN := Lib.hid hn
      generalize hLA : M.take (halfL M) = LA at *
      generalize hLB : M.drop (halfL M) = LB at *
      have HLA := Lib.hid hLA
      have HLB := Lib.hid hLB
      clear hLA hLB
      have hla1 : 1 ≤ LA.length := by omega
      have hla2 : LA.length ≤ 201 := by have := HM.out.2.2; omega
      have hlb1 : 1 ≤ LB.length := by omega
      have hlb2 : LB.length ≤ 201 := by have := HM.out.2.2; omega
      have HH := Lib.hid (And.intro hA (And.intro hB (And.intro hcat (And.intro hszs (And.intro okA (And.intro okB (And.intro lA (And.intro lB hhl))))))))
      rw [hn] at hF ⊢
      clear hn hA hB hcat hszs okA okB lA lB hhl k2
      go_wp2_with fail
      refine hF.mono ?_
      rintro e w4 ⟨rfl, hb4⟩
      have hr4 := H3.out.2.2.grow hb4 hb4.size
      have hb4w := H3.out.1.trans (hb4.mono H3.out.1.size)
      have hP := split_any _ M w4 hr4 (fun y hy => right_ok (HM.out.1.1 y hy)) (by have := HM.out.2.1; omega) (by have := HM.out.2.2; omega) (fun y hy => HZR.out y (HM.out.1.1 y hy))
      rw [HN.out, HLA.out, HLB.out] at hP
      have H4 := Lib.hid (And.intro hb4w hr4)
      clear hr4 hb4w hb4 hF
      go_wp2_with fail
      refine hP.mono ?_
      rintro e w5 ⟨v5, v6, rfl, hown5, hown6, _, hb5⟩
      have hr5 := row_readsIt hown5
      have hr6 := row_readsIt hown6
      have hrM := H4.out.2.grow hb5 hb5.size
      have hb5w := H4.out.1.trans (hb5.mono H4.out.1.size)
      obtain ⟨A5, c5, hA5⟩ := hr5.form
      obtain ⟨A6, c6, hA6⟩ := hr6.form
      subst hA5 hA6
      have H5 := Lib.hid (And.intro hb5w (And.intro hr5 (And.intro hr6 hrM)))
      clear hr5 hr6 hrM hb5w hb5 hown5 hown6 hP
      go_wp2_with fail
      refine (HAL.out _).mono ?_
      rintro e w6 ⟨rfl, hb6⟩
      have hFA := fits_any _ LA w6 (H5.out.2.1.grow hb6 hb6.size) (by omega)
      rw [decide_eq_true ⟨HH.out.2.2.2.2.1, HH.out.1⟩] at hFA
      have HB6 := Lib.hid hb6
      clear hb6
      go_wp2_with fail
      refine hFA.mono ?_
      rintro e w7 ⟨rfl, hb7⟩
      have hb57 : Below w5.heap.size w5 w7 := HB6.out.trans (hb7.mono HB6.out.size)
      have hFB := fits_any _ LB w7 (H5.out.2.2.1.grow hb57 hb57.size) (by omega)
      rw [decide_eq_true ⟨HH.out.2.2.2.2.2.1, HH.out.2.1⟩] at hFB
      have HB7 := Lib.hid hb57
      clear hb7 hb57 hFA
      go_wp2_with fail
      refine hFB.mono ?_
      rintro e w8 ⟨rfl, hb8⟩
      have hb58 : Below w5.heap.size w5 w8 := HB7.out.trans (hb8.mono HB7.out.size)
      have hrA := H5.out.2.1.grow hb58 hb58.size
      have hrB := H5.out.2.2.1.grow hb58 hb58.size
      have hnil := World.ownsRow_nil w8 w8.heap.size 24 4
      have hA0 : 0 < LA.length := by omega
      have hB0 : 0 < LB.length := by omega
      have hA1 : (0 : Int) < LA.length := by omega
      have hB1 : (0 : Int) < LB.length := by omega
      have hab : ([] : List Itm).length + LA.length ≤ 1000000 := by simp; omega
      have hab2 : LA.length + LB.length ≤ 1000000 := by omega
      have HB8 := Lib.hid hb58
      clear hb8 hb58 hFB
      obtain ⟨A9, c9, w9, hrun9, hown9, hb9⟩ := run_its hnil hrA hA0 hab (Nat.le_refl _) 22
      rw [List.nil_append] at hrun9 hown9
      obtain ⟨A10, c10, w10, hrun10, hown10, hb10⟩ := run_its hown9 (hrB.grow hb9 hb9.size) hB0 hab2 hb9.size 22
      have hr10 := row_readsIt hown10
      rw [HH.out.2.2.1] at hrun10 hr10
      have hb510 : Below w5.heap.size w5 w10 := (HB8.out.trans (hb9.mono HB8.out.size)).trans (hb10.mono HB8.out.size)
      have hrM := H5.out.2.2.2.grow hb510 hb510.size
      have hSI := sameItems_any _ _ M w10 hr10 hrM (by have := HM.out.2.2; omega)
      rw [HN.out] at hSI hrun10
      have HB10 := Lib.hid hb510
      clear hrA hrB hnil hown9 hown10 hb9 hb10 hr10 hb510 hrM hab hab2
      have HR9 := Lib.hid hrun9
      have HR10 := Lib.hid hrun10
      clear hrun9 hrun10
      go_wp2_with (at_builtin; first
        | (refine wpList_appendG w8 (by kernel_rfl) _ _ 22 22 rfl (.slice none 0 0) (.slice A5 LA.length c5) rfl rfl _ _ HR9.out ?_)
        | (refine wpList_appendG w9 (by kernel_rfl) _ _ 22 22 rfl (.slice A9 LA.length c9) (.slice A6 LB.length c6) rfl rfl _ _ HR10.out ?_))
      refine hSI.mono ?_
      rintro e w11 ⟨rfl, hb11⟩
      have hb511 : Below w5.heap.size w5 w11 := HB10.out.trans (hb11.mono HB10.out.size)
      have hZ1 := fun W (hb : Below w5.heap.size w5 W) => size_any _ LA W (H5.out.2.1.grow hb hb.size) (fun y hy => right_ok (HH.out.2.2.2.2.1.1 y hy)) (by have := HH.out.1; omega)
      have hZ2 := fun W (hb : Below w5.heap.size w5 W) => size_any _ LB W (H5.out.2.2.1.grow hb hb.size) (fun y hy => right_ok (HH.out.2.2.2.2.2.1.1 y hy)) (by have := HH.out.2.1; omega)
      have hZ3 := fun W (hb : Below w5.heap.size w5 W) => size_any _ M W (H5.out.2.2.2.grow hb hb.size) (fun y hy => right_ok (HM.out.1.1 y hy)) (by have := HM.out.2.1; omega)
      simp only [HN.out] at hZ3
      have hsum := HH.out.2.2.2.1
      have ht1 := HH.out.1
      have ht2 := HH.out.2.1
      generalize sz LA = T1 at hZ1 hsum ht1
      generalize sz LB = T2 at hZ2 hsum ht2
      generalize sz M = T3 at hZ3 hsum
      have heq : ((T1 : Int) + (T2 : Int) == (T3 : Int)) = true := by rw [beq_iff_eq]; omega
      have HZ1 := Lib.hid hZ1
      have HZ2 := Lib.hid hZ2
      have HZ3 := Lib.hid hZ3
      have HB11 := Lib.hid hb511
      clear hZ1 hZ2 hZ3 hsum hb511 hb11 hSI HR9 HR10
      go_wp2_with fail
      refine (HZ1.out _ HB11.out).mono ?_
      rintro e w12 ⟨rfl, hb12⟩
      have HB12 := Lib.hid (HB11.out.trans (hb12.mono HB11.out.size))
      clear hb12
      go_wp2_with fail
      refine (HZ2.out _ HB12.out).mono ?_
      rintro e w13 ⟨rfl, hb13⟩
      have HB13 := Lib.hid (HB12.out.trans (hb13.mono HB12.out.size))
      clear hb13
      go_wp2_with fail
      refine (HZ3.out _ HB13.out).mono ?_
      rintro e w14 ⟨rfl, hb14⟩
      go_wp2_with fail
      go_ret
      exact ⟨rfl, H5.out.1.trans ((HB13.out.trans (hb14.mono HB13.out.size)).mono H5.out.1.size)⟩
  · go_wp2_with fail
    all_goals
      first
        | (refine (HAL.out _).mono ?_
           rintro e w3 ⟨rfl, hb3⟩
           go_wp2_with fail
           go_ret
           exact ⟨rfl, H2.out.1.trans (hb3.mono H2.out.1.size)⟩)
        | (exfalso; omega)

set_option maxRecDepth 100000 in
theorem lifted (os : Os) (started : os.Started) (H : Type) (enc : TypeId × Value → H) :
    ReturnsInHanded {} Try.checked os 3 .any (Rows.leafFitsSpec.pre6 enc Try.prog Try.f3 Rows.leafFitsRow.domain false) (Rows.leafFitsSpec.post enc Try.prog Try.f3 false true false false) := by
  refine returnsInHanded_of_change_sized (C := Try.checked) own started (by kernel_rfl) Try.func3
    (ChangeSpec.witness6 (enc := enc) (C := Try.checked) false ⟨#[], #[.slice none 0 0, .agg #[.string ByteArray.empty, .string ByteArray.empty, .int .i64 0, .int .i64 0]], []⟩ 8 (by kernel_rfl) (by kernel_rfl) (by kernel_rfl) (by kernel_rfl)) ?_
  intro W base args ds gs before hval0 hW hcnd hsz0 _
  have hsz : (DataW.weightsEach Try.prog (Try.f3.params.toList ++ Rows.leafFitsSpec.plain.varTypes Try.prog) (ds ++ gs)).all (· ≤ reachBytes) = true := hsz0
  have hval : ∀ (j : Nat) t v, Try.f3.params[j]? = some t → args[j]? = some v → Value.okWide Try.prog W .any base t v := hval0
  have hW' := hW
  obtain ⟨p, q, hA0, hV, rfl, hfz, hnd⟩ := hW
  have hA : DataW.TrodAll enc Try.prog W 0 (fun _ => true) true Try.f3.params.toList args.toList ds p := hA0
  rw [Try.params3] at hA hval hsz
  obtain ⟨v0, vs0, d0, ds0, p0, q0, hargs, rfl, rfl, h0, r00⟩ := trodAll_cons hA
  obtain ⟨v1, vs1, d1, ds1, p1, q1, rfl, rfl, rfl, h1, r01⟩ := trodAll_cons r00
  obtain ⟨rfl, rfl, rfl⟩ := trodAll_nil r01
  obtain rfl : args = #[v0, v1] := by cases args; simp_all
  obtain ⟨rfl, rfl⟩ := trodVars_none hV
  obtain ⟨l0, r0, i0, m0⟩ := reads_items (hval 0 22 v0 rfl rfl) h0
  obtain ⟨x1, rfl, i1⟩ := open_item (hval 1 24 v1 rfl rfl) h1
  clear hA0 hval0 hsz0
  refine (walk W v0 l0 r0 i0 (items_sized hsz (j := 0) rfl rfl m0) x1 i1).mono fun e W' ⟨he, hb⟩ => ?_
  subst he
  exact ⟨_, rfl, law_post hW' rfl rfl (by kernel_rfl) (by kernel_rfl) hb⟩

theorem said : Rows.LeafFitsSaid :=
  OpenClaim.holds_of_wide 3 Try.f3 rfl rfl rfl rfl rfl rfl rfl ⟨rfl, rfl, rfl, rfl, rfl⟩ rfl rfl rfl rfl rfl (by kernel_rfl) Try.func3 (by kernel_rfl)
    (of_decide_eq_true (by kernel_rfl)) (by unfold Func.isWrapper; first | (rw [if_pos (by decide +kernel)]; kernel_rfl) | (rw [if_neg (by decide +kernel)]; exact ⟨rfl, rfl⟩))
    (fun os started H enc _ => lifted os started H enc)
end Go.Proofs.Ytbhacdoeacblpaa.leafFits
