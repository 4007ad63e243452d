/-
  NumFirst: a reader's first error stays, and nothing is read any more: for every text and every int. Conditions: none but those of the given statement (the tables that the row lists hold what the program's text lays).
-/
import Derived.Test.YtdkafkdilmheiaaDoorFrame
namespace Go.Proofs.YtdkafkdilmheiaaDoor.numFirst
open Go.ChangeShapes Go.WideShapes Go.ChangeAt Go.RowKit

set_option maxRecDepth 1000000 in
set_option maxHeartbeats 800000 in
theorem walk (s : ByteArray) (hs : s.size ≤ 9223372036854775807) (n : Int) (_hn : IsInt n) (w : World) (ht : TabOK w) : Calls Tryd.prog 9 #[.string s, .int .i64 n] w fun e w' => e = .returned (.bool true) ∧ Below w.heap.size w w' := by
  have HT := Lib.hid ht
  have hin := ht.inside
  clear ht
  by_cases hl : 3000 < s.size
  · go_enter Tryd.func9, Tryd.ntmps9
    go_wp2_with fail
    refine (alive_any _ HT.out).mono ?_
    rintro e w1 ⟨rfl, hb⟩
    go_wp2
    go_ret
    exact ⟨rfl, hb⟩
  · go_enter Tryd.func9, Tryd.ntmps9
    go_wp2_with fail
    refine (new_any s _ hs).mono ?_
    rintro e w1 ⟨rfl, hrd, hb1⟩
    go_wp2_with fail
    refine (rcount_any _ _ n _ hrd).mono ?_
    rcases hc : rcount n s.data.toList with ⟨x, r, er⟩
    have HC := Lib.hid hc
    clear hc
    rintro e w2 ⟨rfl, hrd2, hg2⟩
    have hin1 := hrd.inside
    have hb2 : Below w.heap.size w w2 := hb1.trans (below_of_grownBy hg2 (by omega) (by omega))
    have hs2 := hb2.size
    obtain ⟨_, _, _, hcell⟩ := id hrd2
    have c1 := hcell.cell 1
    simp at c1
    clear hcell
    go_wp2_with fail
    refine (err_at _ _ _ c1).mono ?_
    rintro e w' ⟨rfl, rfl⟩
    clear c1
    by_cases her : er = 0
    · subst her
      go_wp2_with fail
      refine (alive_any _ (HT.out.below hb2 hin)).mono ?_
      rintro e w3 ⟨rfl, hb3⟩
      go_wp2
      go_ret
      exact ⟨rfl, hb2.trans (hb3.mono hs2)⟩
    · have e1 : (er == 0) = false := by simpa using her
      go_wp2_with fail
      refine (alive_any _ (HT.out.below hb2 hin)).mono ?_
      rintro e w3 ⟨rfl, hb3⟩
      have hrd3 := hrd2.below hb3 hrd2.inside
      obtain ⟨_, _, _, hcell⟩ := id hrd3
      have c1 := hcell.cell 1
      simp at c1
      clear hcell
      go_wp2_with (first | (go_at_call 32; refine (rvar_err _ _ _ _ hrd3 her).mono ?_; rintro e w' ⟨rfl, rfl⟩) | (go_at_call 34; refine (rtext_err _ _ _ _ _ hrd3 her).mono ?_; rintro e w' ⟨rfl, rfl⟩) | (go_at_call 35; refine (rbool_err _ _ _ _ hrd3 her).mono ?_; rintro e w' ⟨rfl, rfl⟩) | (go_at_call 36; refine (err_at _ _ _ c1).mono ?_; rintro e w' ⟨rfl, rfl⟩) | (go_at_call 37; refine (end_any _ _ _ _ hrd3).mono ?_; rintro e w' ⟨rfl, rfl⟩))
      have e2 : endOf r er = er := by unfold endOf; rw [if_neg her]
      rw [e2]
      go_ret
      exact ⟨ret_bool (by simp), hb2.trans (hb3.mono hs2)⟩

theorem contract (H : Type) (enc : TypeId × Value → H) (W : World) (base : Nat) (args : Array Value) (ds gs : List (DataW H)) (before : List MemPlace)
    (hval : ∀ (j : Nat) t v, Tryd.f9.params[j]? = some t → args[j]? = some v → Value.okWide Tryd.prog W .any base t v)
    (hW : DataW.Whole enc Tryd.prog Tryd.f9.params.toList Rows.numFirstSpec.vars false W args.toList ds gs before) (hL : laidMetH Tryd.prog Rows.numFirstRow.laid W) :
    Calls Tryd.prog 9 args W fun e W' => ∃ v, e = .returned v ∧ Rows.numFirstSpec.post enc Tryd.prog Tryd.f9 false true false false W args v W' := by
  have hW' := hW
  obtain ⟨p, q, hA0, hV, rfl, hfz, hnd⟩ := hW
  have hA : DataW.TrodAll enc Tryd.prog W 0 (fun _ => true) true Tryd.f9.params.toList args.toList ds p := hA0
  rw [Tryd.params9] at hA hval
  obtain ⟨v0, vs0, d0, ds0, p0, q0, hargs, rfl, rfl, h0, r00⟩ := trodAll_cons hA
  obtain ⟨v1, vs1, d1, ds1, p1, q1, rfl, rfl, rfl, h1, r01⟩ := trodAll_cons r00
  obtain ⟨rfl, rfl, rfl⟩ := trodAll_nil r01
  obtain rfl : args = #[v0, v1] := by cases args; simp_all
  obtain ⟨rfl, rfl⟩ := trodVars_none hV
  obtain ⟨s0, rfl, rfl, rfl, z0⟩ := Go.ChangeMaps.open_string Tryd.underlying9 (hval 0 9 v0 rfl rfl) h0
  obtain ⟨n1, rfl, rfl, rfl, w1⟩ := open_int Tryd.underlying3 (hval 1 3 v1 rfl rfl) h1
  clear hA0
  refine (walk s0 (le_of_maxLen z0) n1 (isInt_of_wf w1) W (tab_ok hL)).mono fun e W' ⟨he, hb⟩ => ?_
  subst he
  exact ⟨_, rfl, law_post hW' rfl rfl (by kernel_rfl) (by kernel_rfl) hb⟩

theorem reads (os : Os) {H : Type} (enc : TypeId × Value → H) : ∃ places, DataW.whole enc Tryd.prog ((laidWorld os).forCall (fun _ _ => 0) ⟨#[], #[.string ByteArray.empty, .int .i64 0], []⟩).memory Tryd.f9.params.toList Rows.numFirstSpec.vars false (#[.string ByteArray.empty, .int .i64 0] : Array Value).toList 8 = some ([.lit (.string []), .lit (.int .i64 0)], [], places) :=
  ⟨[], by kernel_rfl⟩

set_option maxRecDepth 100000 in
theorem lifted (os : Os) (started : os.Started) (H : Type) (enc : TypeId × Value → H) (F : Stop.Interp) :
    ReturnsInHanded {} Tryd.checked os 9 .any ((OpenSpec.ofChange Rows.numFirstSpec).preRow enc Tryd.prog Tryd.f9 Rows.numFirstRow.domain false Rows.numFirstRow.laid) (((OpenSpec.ofChange Rows.numFirstSpec).at F).post enc Tryd.prog Tryd.f9 false true false false) := by
  obtain ⟨places, hx⟩ := reads os enc
  refine returnsInHanded_of_row (C := Tryd.checked) (s := OpenSpec.ofChange Rows.numFirstSpec) own started (by kernel_rfl) Tryd.func9
    (witness_row_at (enc := enc) (C := Tryd.checked) false (laidWorld os) #[.string ByteArray.empty, .int .i64 0] rfl (by kernel_rfl) (by kernel_rfl) (by kernel_rfl)
      (OpenSpec.preRow_of_cond 8 hx (by kernel_rfl) (fun k hk => by cases hk) (by kernel_rfl) (laid_met os _))) ?_
  intro W base args ds gs before hval hW _ _ _ hL _ _
  exact contract H enc W base args ds gs before hval hW hL

theorem said : Rows.NumFirstSaid :=
  OpenClaim.holds_of_cond 9 Tryd.f9 rfl rfl rfl rfl rfl rfl rfl ⟨rfl, rfl, rfl, rfl, rfl⟩ rfl rfl rfl rfl rfl (by kernel_rfl) Tryd.func9 (by kernel_rfl)
    (of_decide_eq_true (by kernel_rfl)) (by unfold Func.isWrapper; first | (rw [if_pos (by decide +kernel)]; kernel_rfl) | (rw [if_neg (by decide +kernel)]; exact ⟨rfl, rfl⟩))
    (fun os started H enc _ F => by rw [OpenClaim.pre_eq_preRow]; exact lifted os started H enc F)

theorem plain (f : FuncId) (fn : Func) (hf : Tryd.pinned.checked.prog.funcNamed "arboretum/arboretumlaw1.NumFirst" = some f) (hfn : Tryd.pinned.checked.prog.funcs[f]? = some fn) :
    false = Tryd.pinned.checked.prog.looks [] ∧ ∀ (j : Nat) t, fn.params[j]? = some t → Tryd.pinned.checked.prog.wantsStandIn t = false := by
  obtain rfl : f = 9 := Option.some.inj ((show Tryd.prog.funcNamed "arboretum/arboretumlaw1.NumFirst" = some 9 by kernel_rfl).symm.trans hf) |>.symm
  obtain rfl : fn = Tryd.f9 := (Option.some.inj (Tryd.func9.symm.trans hfn)).symm
  refine ⟨by kernel_rfl, fun j t ht => ?_⟩
  rw [Tryd.params9] at ht
  have hm : t ∈ [9, 3] := by simpa using Array.mem_of_getElem? ht
  have hall : ([9, 3].all fun u => !Tryd.prog.wantsStandIn u) = true := by kernel_rfl
  exact (show Tryd.prog.wantsStandIn t = false by simpa using List.all_eq_true.1 hall t hm)

theorem card : Rows.NumFirstCardSaid :=
  Claim7.holds_tied_plain_at .later [] _ _ _ _ said (fun _ h => by cases h) (by kernel_rfl) (fun _ h => by cases h) numFirst_row_tie rfl ⟨rfl, rfl⟩ (by kernel_rfl) rfl plain (by kernel_rfl)

end Go.Proofs.YtdkafkdilmheiaaDoor.numFirst
