/-
  OverFull: where there is no room for a chain nothing is made; else just as many pages as its pieces. For every value and every number of pages. Conditions: the variables that the row lists are laid as its card says.
-/
import Derived.Test.YtlignamakiiokaaGreatDoorMg41
import Derived.Test.YtlignamakiiokaaGreatDoorMg27
import Derived.Test.YtlignamakiiokaaGreatDoorMg42
namespace Go.Proofs.YtlignamakiiokaaGreatDoor.overFull
open Go.RowKit Go.Sort Go.Lib Go.ChangeShapes Go.WideShapes Go.ChangeAt

/-- Rising numbers that are just those of a list. -/
theorem fated_len {H : Int → Chg} {L M : List Int} (h : Fated H 1 L) (hM : M.Nodup) (hH : ∀ y, (H y).fate = 1 ↔ y ∈ M) : L.length = M.length := by
  have h1 : L.Nodup := h.1.imp (fun {a b} hab => by omega)
  exact ((List.perm_ext_iff_of_nodup h1 hM).2 (fun a => by rw [h.2.2 a, hH a])).length_eq

set_option maxRecDepth 1000000 in
set_option maxHeartbeats 8000000 in
theorem walk_whole (w : World) (v : ByteArray) (most : Int) (hv0 : v.size ≠ 0) (hv1 : v.size ≤ 2000) (h0 : 3 ≤ most) (h1 : most ≤ 20) :
    Calls Tryz.prog 6 #[.string v, .int .i64 most] w fun e w' => e = .returned (.bool true) ∧ Below w.heap.size w w' := by
  have hbs := base7_ok (w := w) (v := .slice none 0 0) (l := []) most 2 (by omega) (by omega) (by omega) (Reads1.empty _ _ _ _) (by simp)
  have hyg := Yg.new most (by omega) (by omega)
  have hav := avail_new most (by omega)
  obtain ⟨s0, hs0⟩ : ∃ s0, newPg (longer (newS most) 2) [] 0 [] [] 2 1 = s0 := ⟨_, rfl⟩
  have hn0 : s0.n = 0 := by rw [← hs0]; rfl
  have hf0 : ∀ x, (s0.H x).fate = 0 := fun x => by rw [← hs0]; rfl
  rw [hs0] at hyg hav
  obtain ⟨z, hz⟩ : ∃ z, v.size = z := ⟨_, rfl⟩
  have HM := Lib.hid (And.intro h0 (And.intro h1 (And.intro hv0 (And.intro hv1 (And.intro hyg (And.intro hav (And.intro hs0 (And.intro hn0 (And.intro hf0 hz)))))))))
  have g1 : decide (most < 3) = false := by simp; omega
  have g2 : decide (20 < most) = false := by simp; omega
  have g3 : decide ((v.size : Int) < 1) = false := by simp; omega
  have g4 : decide ((2000 : Int) < (v.size : Int)) = false := by simp; omega
  have g5 : ¬ (v.size < 1) := by omega
  clear h0 h1 hv0 hv1 hyg hav hs0 hn0 hf0 hz
  go_enter Tryz.func6, Tryz.ntmps6
  go_wp2_with fail
  refine hbs.mono ?_
  rintro e w1 ⟨pd, q, pf, qf, FD, FF, rfl, hd, hf, hge, hfg, hap, hb⟩
  have hnw := gnew_ok 2 1 hd hf hap (by omega) (by rw [longer_new_len]; omega) (by omega) (by simp [whats]) (by simp)
  have H1 := Lib.hid (And.intro hge (And.intro hfg hb))
  clear hbs hd hf hge hfg hap hb
  go_wp2_with fail
  refine hnw.mono ?_
  rintro e w2 ⟨p, b, F2, rfl, hp2, hF2, hb2⟩
  have hr2 : PgRun w p pd pf b s0 w2 := by rw [← HM.out.2.2.2.2.2.2.1]; exact PgRun.new hp2 hF2 H1.out.1 H1.out.2.1 H1.out.2.2 hb2
  clear hnw hp2 hF2 hb2 H1 F2
  obtain ⟨F, hp, hstep⟩ := hr2.step
  have hpu := oput_any v (by have := HM.out.2.2.2.1; omega) HM.out.2.2.2.2.1 (by have := HM.out.2.2.2.2.2.2.2.1; omega) hp
  have HS := Lib.hid hstep
  clear hr2 hp hstep
  go_wp2_with fail
  refine hpu.mono ?_
  rintro e w3 ⟨rfl, h3⟩
  have hr3 := HS.out _ _ h3
  obtain ⟨h0, h1, hv0, hv1, hyg, hav, -, hn0, hf0, hz⟩ := HM.out
  obtain ⟨K, hK⟩ : ∃ K, nP v.size = K := ⟨_, rfl⟩
  have hKz : (v.size + 239) / 240 = K := hK
  obtain ⟨m, hm⟩ : ∃ m : Nat, most = 2 + m := ⟨(most - 2).toNat, by omega⟩
  have hKb : K ≤ 9 := by omega
  have hav2 : avail s0 = m := by omega
  have r0 : IntKind.i64.wrap ((v.size : Int) + 239) = (v.size : Int) + 239 := IntWalk.i64_in _ (by omega)
  have r1 : IntKind.i64.wrap (Int.tdiv ((v.size : Int) + 239) 240) = (K : Int) := by
    have e : Int.tdiv ((v.size : Int) + 239) 240 = (K : Int) := by rw [Int.tdiv_eq_ediv_of_nonneg (by omega)]; omega
    rw [e]
    exact IntWalk.i64_in _ (by omega)
  have r2 : IntKind.i64.wrap (most - 2) = (m : Int) := by rw [IntWalk.i64_in _ (by omega)]; omega
  by_cases hr : K ≤ m
  · obtain ⟨e1, ids, hch, hpi, hy1, hn1, -, -, -, -, hfa⟩ := put_ok hyg v hv0 hv1 (by rw [hK, hav2]; exact hr)
    have g6 : ¬ (m < K) := by omega
    rw [e1]
    have hl := hch.1
    have hnd := hch.2.1
    have hfa2 : ∀ y, ((puT s0 v).H y).fate = 1 ↔ y ∈ ids := fun y => by rw [hfa, hf0]; simp
    have hsn : (puT s0 v).n ≤ 100 := by rw [hn1, hn0]; omega
    generalize puI s0 v = n at *
    generalize puT s0 v = s1 at *
    have HR := Lib.hid (And.intro hr3 (And.intro hl (And.intro hnd (And.intro hfa2 (And.intro hsn (And.intro hK hv1))))))
    have HZ := Lib.hid hz
    clear h0 h1 hv0 hv1 hyg hav hn0 hf0 hz hKz hm hav2 e1 hch hpi hy1 hn1 hfa hl hnd hfa2 hsn hr hpu h3 hr3 HS hK
    go_wp2_with fail
    refine (alive10_any w3).mono ?_
    rintro e w4 ⟨rfl, hb4⟩
    have hr4 := HR.out.1.below hb4
    obtain ⟨F4, hp4, hstep4⟩ := hr4.step
    have hmd := gmade_any (by have := HR.out.2.2.2.2.1; omega) hp4
    have H4 := Lib.hid (And.intro hr4 hb4)
    clear hb4 hr4 hp4 hstep4
    go_wp2_with fail
    refine hmd.mono ?_
    rintro e w5 ⟨v5, L, rfl, hr5, hfat, -, hb5⟩
    have hLj := fated_len hfat HR.out.2.2.1 HR.out.2.2.2.1
    rw [HR.out.2.1, HR.out.2.2.2.2.2.1] at hLj
    obtain ⟨A5, c5, hform⟩ := row_form hr5
    rw [hLj] at hform
    subst hform
    have hcut := cut_any v (by have := HR.out.2.2.2.2.2.2; omega) w5
    have H5 := Lib.hid (H4.out.1.below hb5).out
    clear hmd hr5 hfat hb5 hLj
    go_wp2_with fail
    refine hcut.mono ?_
    rintro e w6 ⟨v6, rfl, hr6, hb6⟩
    unfold TxRow at hr6
    rw [cutL_length, HR.out.2.2.2.2.2.1] at hr6
    obtain ⟨A6, c6, hform⟩ := rform3 hr6
    subst hform
    have H6 := Lib.hid (H5.out.trans (hb6.mono H5.out.size))
    clear hcut hr6 hb6
    go_wp2_with fail
    go_ret
    exact ⟨rfl, H6.out⟩
  · obtain ⟨e1, e2, hy1, hfa, hn1⟩ := oput_full hyg v hv0 hv1 (by rw [hK, hav2]; omega)
    have g6 : m < K := by omega
    rw [e1, e2]
    have hfa2 : ∀ y, ((puT s0 v).H y).fate = 1 ↔ y ∈ ([] : List Int) := fun y => by rw [hfa, hf0]; simp
    have hsn : (puT s0 v).n ≤ 100 := by rw [hn0] at hn1; omega
    generalize puT s0 v = s1 at *
    have HR := Lib.hid (And.intro hr3 (And.intro hfa2 hsn))
    have HZ := Lib.hid hz
    clear h0 h1 hv0 hv1 hyg hav hn0 hf0 hz hKz hm hav2 e1 e2 hy1 hn1 hfa hfa2 hsn hr hpu h3 hr3 HS hK
    go_wp2_with fail
    refine (alive10_any w3).mono ?_
    rintro e w4 ⟨rfl, hb4⟩
    have hr4 := HR.out.1.below hb4
    obtain ⟨F4, hp4, hstep4⟩ := hr4.step
    have hmd := gmade_any (by have := HR.out.2.2; omega) hp4
    have H4 := Lib.hid (And.intro hr4 hb4)
    clear hb4 hr4 hp4 hstep4
    go_wp2_with fail
    refine hmd.mono ?_
    rintro e w5 ⟨v5, L, rfl, hr5, hfat, -, hb5⟩
    have hLj := fated_len hfat List.nodup_nil HR.out.2.1
    obtain ⟨A5, c5, hform⟩ := row_form hr5
    rw [hLj] at hform
    subst hform
    have H5 := Lib.hid (H4.out.1.below hb5).out
    clear hmd hr5 hfat hb5 hLj
    go_wp2_with fail
    go_ret
    exact ⟨rfl, H5.out⟩

/-- What does not come to a pager. -/
def Out (z : Nat) (most : Int) (i : Nat) : Prop := match i with
  | 0 => z < 1
  | 1 => ¬ (z < 1) ∧ 2000 < z
  | 2 => ¬ (z < 1) ∧ ¬ (2000 < z) ∧ most < 3
  | 3 => ¬ (z < 1) ∧ ¬ (2000 < z) ∧ ¬ (most < 3) ∧ 20 < most
  | _ => False

set_option maxRecDepth 1000000 in
set_option maxHeartbeats 2000000 in
theorem walk_out (w : World) (v : ByteArray) (most : Int) (_hs : v.size ≤ 9223372036854775807) (i : Nat) (h : Out v.size most i) :
    Calls Tryz.prog 6 #[.string v, .int .i64 most] w fun e w' => e = .returned (.bool true) ∧ Below w.heap.size w w' := by
  have hal := alive10_any w
  match i, h with
  | 0, h =>
    have g1 : v.size < 1 := h
    clear h
    go_enter Tryz.func6, Tryz.ntmps6
    go_wp2_with fail
    refine hal.mono ?_
    rintro e w1 ⟨rfl, hb⟩
    have HB := Lib.hid hb
    clear hal hb
    go_wp2_with fail
    go_ret
    exact ⟨rfl, HB.out⟩
  | 1, h =>
    have g1 : ¬ (v.size < 1) := h.1
    have g2 : decide ((2000 : Int) < (v.size : Int)) = true := by have := h.2; simp; omega
    clear h
    go_enter Tryz.func6, Tryz.ntmps6
    go_wp2_with fail
    refine hal.mono ?_
    rintro e w1 ⟨rfl, hb⟩
    have HB := Lib.hid hb
    clear hal hb
    go_wp2_with fail
    go_ret
    exact ⟨rfl, HB.out⟩
  | 2, h =>
    have g1 : ¬ (v.size < 1) := h.1
    have g2 : decide ((2000 : Int) < (v.size : Int)) = false := by have := h.2.1; simp; omega
    have g3 : decide (most < 3) = true := by have := h.2.2; simp; omega
    clear h
    go_enter Tryz.func6, Tryz.ntmps6
    go_wp2_with fail
    refine hal.mono ?_
    rintro e w1 ⟨rfl, hb⟩
    have HB := Lib.hid hb
    clear hal hb
    go_wp2_with fail
    go_ret
    exact ⟨rfl, HB.out⟩
  | 3, h =>
    have g1 : ¬ (v.size < 1) := h.1
    have g2 : decide ((2000 : Int) < (v.size : Int)) = false := by have := h.2.1; simp; omega
    have g3 : decide (most < 3) = false := by have := h.2.2.1; simp; omega
    have g4 : decide (20 < most) = true := by have := h.2.2.2; simp; omega
    clear h
    go_enter Tryz.func6, Tryz.ntmps6
    go_wp2_with fail
    refine hal.mono ?_
    rintro e w1 ⟨rfl, hb⟩
    have HB := Lib.hid hb
    clear hal hb
    go_wp2_with fail
    go_ret
    exact ⟨rfl, HB.out⟩
  | k + 4, h => exact h.elim

theorem walk (w : World) (v : ByteArray) (hs : v.size ≤ 9223372036854775807) (most : Int) (_hm : IsInt most) :
    Calls Tryz.prog 6 #[.string v, .int .i64 most] w fun e w' => e = .returned (.bool true) ∧ Below w.heap.size w w' := by
  by_cases c0 : v.size < 1
  · exact walk_out w v most hs 0 c0
  by_cases c1 : 2000 < v.size
  · exact walk_out w v most hs 1 ⟨c0, c1⟩
  by_cases c2 : most < 3
  · exact walk_out w v most hs 2 ⟨c0, c1, c2⟩
  by_cases c3 : 20 < most
  · exact walk_out w v most hs 3 ⟨c0, c1, c2, c3⟩
  exact walk_whole w v most (by omega) (by omega) (by omega) (by omega)

set_option maxRecDepth 100000 in
theorem contract (H : Type) (enc : TypeId × Value → H) (W : World) (base : Nat) (args : Array Value) (ds gs : List (DataW H)) (before : List MemPlace)
    (hval : ∀ (j : Nat) t v, Tryz.f6.params[j]? = some t → args[j]? = some v → Value.okWide Tryz.prog W .any base t v)
    (hW : DataW.Whole enc Tryz.prog Tryz.f6.params.toList Rows.overFullSpec.vars false W args.toList ds gs before) (_hL : laidMetH Tryz.prog Rows.overFullRow.laid W) :
    Calls Tryz.prog 6 args W fun e W' => ∃ v, e = .returned v ∧ Rows.overFullSpec.post enc Tryz.prog Tryz.f6 false true false false W args v W' := by
  have hW' := hW
  obtain ⟨p, q, hA0, hV, rfl, hfz, hnd⟩ := hW
  have hA : DataW.TrodAll enc Tryz.prog W 0 (fun _ => true) true Tryz.f6.params.toList args.toList ds p := hA0
  rw [Tryz.params6] at hA hval
  obtain ⟨v0, vs0, d0, ds0, p0, q0, hargs, rfl, rfl, h0, r00⟩ := trodAll_cons hA
  obtain ⟨v1, vs1, d1, ds1, p1, q1, rfl, rfl, rfl, h1, r01⟩ := trodAll_cons r00
  obtain ⟨rfl, rfl, rfl⟩ := trodAll_nil r01
  obtain rfl : args = #[v0, v1] := by cases args; simp_all
  obtain ⟨rfl, rfl⟩ := trodVars_none hV
  obtain ⟨s0, rfl, rfl, rfl, z0⟩ := Go.ChangeMaps.open_string Tryz.underlying9 (hval 0 9 v0 rfl rfl) h0
  obtain ⟨n1, rfl, rfl, rfl, w1⟩ := open_int Tryz.underlying3 (hval 1 3 v1 rfl rfl) h1
  clear hA0
  refine (walk W s0 (le_of_maxLen z0) n1 (isInt_of_wf w1)).mono fun e W' ⟨he, hb⟩ => ?_
  subst he
  exact ⟨_, rfl, law_post hW' rfl rfl (by kernel_rfl) (by kernel_rfl) hb⟩

theorem reads (os : Os) {H : Type} (enc : TypeId × Value → H) : ∃ places, DataW.whole enc Tryz.prog ((laidWorld os).forCall (fun _ _ => 0) ⟨#[], #[.string ByteArray.empty, .int .i64 0], []⟩).memory Tryz.f6.params.toList Rows.overFullSpec.vars false (#[.string ByteArray.empty, .int .i64 0] : Array Value).toList 8 = some ([.lit (.string []), .lit (.int .i64 0)], [], places) :=
  ⟨[], by kernel_rfl⟩

set_option maxRecDepth 100000 in
theorem lifted (os : Os) (started : os.Started) (H : Type) (enc : TypeId × Value → H) (F : Stop.Interp) :
    ReturnsInHanded {} Tryz.checked os 6 .any ((OpenSpec.ofChange Rows.overFullSpec).preRow enc Tryz.prog Tryz.f6 Rows.overFullRow.domain false Rows.overFullRow.laid) (((OpenSpec.ofChange Rows.overFullSpec).at F).post enc Tryz.prog Tryz.f6 false true false false) := by
  obtain ⟨places, hx⟩ := reads os enc
  refine returnsInHanded_of_row (C := Tryz.checked) (s := OpenSpec.ofChange Rows.overFullSpec) own started (by kernel_rfl) Tryz.func6
    (witness_row_at (enc := enc) (C := Tryz.checked) false (laidWorld os) #[.string ByteArray.empty, .int .i64 0] (laid_os os) (by kernel_rfl) (by kernel_rfl) (by kernel_rfl)
      (OpenSpec.preRow_of_cond 8 hx (by kernel_rfl) (fun k hk => by cases hk) (by kernel_rfl) (laid_met os _))) ?_
  intro W base args ds gs before hval hW _ _ _ hL _ _
  exact contract H enc W base args ds gs before hval hW hL

set_option maxRecDepth 100000 in
theorem said : Rows.OverFullSaid :=
  OpenClaim.holds_of_cond 6 Tryz.f6 rfl rfl rfl rfl rfl rfl rfl ⟨rfl, rfl, rfl, rfl, rfl⟩ rfl rfl rfl rfl rfl (by kernel_rfl) Tryz.func6 (by kernel_rfl)
    (of_decide_eq_true (by kernel_rfl)) (by unfold Func.isWrapper; first | (rw [if_pos (by decide +kernel)]; kernel_rfl) | (rw [if_neg (by decide +kernel)]; exact ⟨rfl, rfl⟩))
    (fun os started H enc _ F => by rw [OpenClaim.pre_eq_preRow]; exact lifted os started H enc F)

set_option maxRecDepth 100000 in
theorem plain (f : FuncId) (fn : Func) (hf : Tryz.pinned.checked.prog.funcNamed "arboretum/arboretumlaw10.OverFull" = some f) (hfn : Tryz.pinned.checked.prog.funcs[f]? = some fn) :
    true = Tryz.pinned.checked.prog.looks [] ∧ ∀ (j : Nat) t, fn.params[j]? = some t → Tryz.pinned.checked.prog.wantsStandIn t = false := by
  obtain rfl : f = 6 := Option.some.inj ((show Tryz.prog.funcNamed "arboretum/arboretumlaw10.OverFull" = some 6 by kernel_rfl).symm.trans hf) |>.symm
  obtain rfl : fn = Tryz.f6 := (Option.some.inj (Tryz.func6.symm.trans hfn)).symm
  refine ⟨by kernel_rfl, fun j t ht => ?_⟩
  rw [Tryz.params6] at ht
  have hm : t ∈ [9, 3] := by simpa using Array.mem_of_getElem? ht
  have hall : ([9, 3].all fun u => !Tryz.prog.wantsStandIn u) = true := by kernel_rfl
  exact (show Tryz.prog.wantsStandIn t = false by simpa using List.all_eq_true.1 hall t hm)

theorem card : Rows.OverFullCardSaid :=
  Claim7.holds_tied_plain_at .later [] _ _ _ _ said (fun _ h => by cases h) (by kernel_rfl) (fun _ h => by cases h) overFull_row_tie rfl ⟨rfl, rfl⟩ (by kernel_rfl) rfl plain (by kernel_rfl)

end Go.Proofs.YtlignamakiiokaaGreatDoor.overFull
