/-
  PagerNone: a nil and a zero pager answer ErrArg, 0 and nothing, and there is no pager of no device; for every number and page. Conditions: the variables that the row lists are laid as its card says.
-/
import Derived.Test.YtmcfldcpmjdfbaaGreatDoorMg44
import Derived.Test.YtmcfldcpmjdfbaaGreatDoorMg46
namespace Go.Proofs.YtmcfldcpmjdfbaaGreatDoor.pagerNone
open Go.RowKit Go.Sort Go.Lib Go.ChangeShapes Go.WideShapes Go.ChangeAt

def zeroCells : Array Value := #[.pointer none, .pointer none, .slice none 0 0, .int .i64 0, .slice none 0 0, .slice none 0 0, .int .i64 0, .int .i64 0, .int .i64 0, .map none]

set_option maxRecDepth 1000000 in
set_option maxHeartbeats 8000000 in
theorem walk (w : World) (x : Int) (_hx : IsInt x) (k n : Int) (t : ByteArray) (_hk : IsInt k) (_hn : IsInt n) (_hs : t.size ≤ 9223372036854775807) :
    Calls Tryz.prog 3 #[.int .i64 x, .agg #[.int .i64 k, .int .i64 n, .string t]] w fun e w' => e = .returned (.bool true) ∧ Below w.heap.size w w' := by
  have hb1 := alloc_below (w := w) (.cells #[.int .i64 k, .int .i64 n, .string t] 23)
  have hz : (w.alloc (.cells #[.int .i64 k, .int .i64 n, .string t] 23)).heap.size = w.heap.size + 1 := by simp
  have hb2 := alloc_below (w := w.alloc (.cells #[.int .i64 k, .int .i64 n, .string t] 23)) (.cells zeroCells 45)
  have hx1 : Has ((w.alloc (.cells #[.int .i64 k, .int .i64 n, .string t] 23)).alloc (.cells zeroCells 45)) w.heap.size 23 #[.int .i64 k, .int .i64 n, .string t] := (Has.made w 23 _).alloc _
  have hz1 := Has.made (w.alloc (.cells #[.int .i64 k, .int .i64 n, .string t] 23)) 45 zeroCells
  rw [hz] at hz1 hb2
  have hW : Below w.heap.size w ((w.alloc (.cells #[.int .i64 k, .int .i64 n, .string t] 23)).alloc (.cells zeroCells 45)) := hb1.trans (hb2.mono (by omega))
  have H := Lib.hid (And.intro hx1 (And.intro hz1 hW))
  clear hb1 hb2 hx1 hz1 hW hz
  go_enter Tryz.func3, Tryz.ntmps3
  go_wp2_with fail
  refine (gnew_nil _ 2 1).mono ?_
  rintro e w' ⟨rfl, rfl⟩
  have hc := gmake_no (w := ((w.alloc (.cells #[.int .i64 k, .int .i64 n, .string t] 23)).alloc (.cells zeroCells 45))) (pv := .pointer none) (.inl rfl) k n t
  have d0 := H.out.1.cell 0
  have d1 := H.out.1.cell 1
  have d2 := H.out.1.cell 2
  simp at d0 d1 d2
  go_wp2_with fail
  refine hc.mono ?_
  rintro e w1 ⟨rfl, hb⟩
  have H1 := Lib.hid (And.intro (H.out.1.below hb H.out.1.inside) (And.intro (H.out.2.1.below hb H.out.2.1.inside) (H.out.2.2.trans (hb.mono H.out.2.2.size))))
  clear hc hb H d0 d1 d2
  have hc := gmake_no (w := w1) (pv := .pointer (some ⟨w.heap.size + 1, 0, none⟩)) (.inr ⟨w.heap.size + 1, rfl, H1.out.2.1.inside, H1.out.2.1.cell 0⟩) k n t
  have d0 := H1.out.1.cell 0
  have d1 := H1.out.1.cell 1
  have d2 := H1.out.1.cell 2
  simp at d0 d1 d2
  go_wp2_with fail
  refine hc.mono ?_
  rintro e w2 ⟨rfl, hb⟩
  have H2 := Lib.hid (And.intro (H1.out.1.below hb H1.out.1.inside) (And.intro (H1.out.2.1.below hb H1.out.2.1.inside) (H1.out.2.2.trans (hb.mono H1.out.2.2.size))))
  clear hc hb H1 d0 d1 d2
  have hc := gread_no (w := w2) (pv := .pointer none) (.inl rfl) x
  go_wp2_with fail
  refine hc.mono ?_
  rintro e w3 ⟨rfl, hb⟩
  have hb := hb.trans ((alloc_below (w := w3) (.cells #[.int .i64 0, .int .i64 0, .string ⟨#[]⟩] 23)).mono hb.size)
  have H3 := Lib.hid (And.intro (H2.out.1.below hb H2.out.1.inside) (And.intro (H2.out.2.1.below hb H2.out.2.1.inside) (H2.out.2.2.trans (hb.mono H2.out.2.2.size))))
  clear hc hb H2
  have hc := gread_no (w := (w3.alloc (.cells #[.int .i64 0, .int .i64 0, .string ⟨#[]⟩] 23))) (pv := .pointer (some ⟨w.heap.size + 1, 0, none⟩)) (.inr ⟨w.heap.size + 1, rfl, H3.out.2.1.inside, H3.out.2.1.cell 0⟩) x
  go_wp2_with fail
  refine hc.mono ?_
  rintro e w4 ⟨rfl, hb⟩
  have hb := hb.trans ((alloc_below (w := w4) (.cells #[.int .i64 0, .int .i64 0, .string ⟨#[]⟩] 23)).mono hb.size)
  have H4 := Lib.hid (And.intro (H3.out.1.below hb H3.out.1.inside) (And.intro (H3.out.2.1.below hb H3.out.2.1.inside) (H3.out.2.2.trans (hb.mono H3.out.2.2.size))))
  clear hc hb H3
  have hc := gundo_no (w := (w4.alloc (.cells #[.int .i64 0, .int .i64 0, .string ⟨#[]⟩] 23))) (pv := .pointer none) (.inl rfl) 
  go_wp2_with fail
  refine hc.mono ?_
  rintro e w5 ⟨rfl, hb⟩
  have H5 := Lib.hid (And.intro (H4.out.1.below hb H4.out.1.inside) (And.intro (H4.out.2.1.below hb H4.out.2.1.inside) (H4.out.2.2.trans (hb.mono H4.out.2.2.size))))
  clear hc hb H4
  have hc := gundo_no (w := w5) (pv := .pointer (some ⟨w.heap.size + 1, 0, none⟩)) (.inr ⟨w.heap.size + 1, rfl, H5.out.2.1.inside, H5.out.2.1.cell 0⟩) 
  go_wp2_with fail
  refine hc.mono ?_
  rintro e w6 ⟨rfl, hb⟩
  have H6 := Lib.hid (And.intro (H5.out.1.below hb H5.out.1.inside) (And.intro (H5.out.2.1.below hb H5.out.2.1.inside) (H5.out.2.2.trans (hb.mono H5.out.2.2.size))))
  clear hc hb H5
  have hc := alive7_any w6
  go_wp2_with fail
  refine hc.mono ?_
  rintro e w7 ⟨rfl, hb⟩
  have H7 := Lib.hid (And.intro (H6.out.1.below hb H6.out.1.inside) (And.intro (H6.out.2.1.below hb H6.out.2.1.inside) (H6.out.2.2.trans (hb.mono H6.out.2.2.size))))
  clear hc hb H6
  have hc := gput_no (w := w7) (pv := .pointer none) (.inl rfl) x k n t
  have d0 := H7.out.1.cell 0
  have d1 := H7.out.1.cell 1
  have d2 := H7.out.1.cell 2
  simp at d0 d1 d2
  go_wp2_with fail
  refine hc.mono ?_
  rintro e w8 ⟨rfl, hb⟩
  have H8 := Lib.hid (And.intro (H7.out.1.below hb H7.out.1.inside) (And.intro (H7.out.2.1.below hb H7.out.2.1.inside) (H7.out.2.2.trans (hb.mono H7.out.2.2.size))))
  clear hc hb H7 d0 d1 d2
  have hc := gput_no (w := w8) (pv := .pointer (some ⟨w.heap.size + 1, 0, none⟩)) (.inr ⟨w.heap.size + 1, rfl, H8.out.2.1.inside, H8.out.2.1.cell 0⟩) x k n t
  have d0 := H8.out.1.cell 0
  have d1 := H8.out.1.cell 1
  have d2 := H8.out.1.cell 2
  simp at d0 d1 d2
  go_wp2_with fail
  refine hc.mono ?_
  rintro e w9 ⟨rfl, hb⟩
  have H9 := Lib.hid (And.intro (H8.out.1.below hb H8.out.1.inside) (And.intro (H8.out.2.1.below hb H8.out.2.1.inside) (H8.out.2.2.trans (hb.mono H8.out.2.2.size))))
  clear hc hb H8 d0 d1 d2
  have hc := gdrop_no (w := w9) (pv := .pointer none) (.inl rfl) x
  go_wp2_with fail
  refine hc.mono ?_
  rintro e w10 ⟨rfl, hb⟩
  have H10 := Lib.hid (And.intro (H9.out.1.below hb H9.out.1.inside) (And.intro (H9.out.2.1.below hb H9.out.2.1.inside) (H9.out.2.2.trans (hb.mono H9.out.2.2.size))))
  clear hc hb H9
  have hc := gdrop_no (w := w10) (pv := .pointer (some ⟨w.heap.size + 1, 0, none⟩)) (.inr ⟨w.heap.size + 1, rfl, H10.out.2.1.inside, H10.out.2.1.cell 0⟩) x
  go_wp2_with fail
  refine hc.mono ?_
  rintro e w11 ⟨rfl, hb⟩
  have H11 := Lib.hid (And.intro (H10.out.1.below hb H10.out.1.inside) (And.intro (H10.out.2.1.below hb H10.out.2.1.inside) (H10.out.2.2.trans (hb.mono H10.out.2.2.size))))
  clear hc hb H10
  have hc := gflush_no (w := w11) (pv := .pointer none) (.inl rfl) 
  go_wp2_with fail
  refine hc.mono ?_
  rintro e w12 ⟨rfl, hb⟩
  have H12 := Lib.hid (And.intro (H11.out.1.below hb H11.out.1.inside) (And.intro (H11.out.2.1.below hb H11.out.2.1.inside) (H11.out.2.2.trans (hb.mono H11.out.2.2.size))))
  clear hc hb H11
  have hc := gflush_no (w := w12) (pv := .pointer (some ⟨w.heap.size + 1, 0, none⟩)) (.inr ⟨w.heap.size + 1, rfl, H12.out.2.1.inside, H12.out.2.1.cell 0⟩) 
  go_wp2_with fail
  refine hc.mono ?_
  rintro e w13 ⟨rfl, hb⟩
  have H13 := Lib.hid (And.intro (H12.out.1.below hb H12.out.1.inside) (And.intro (H12.out.2.1.below hb H12.out.2.1.inside) (H12.out.2.2.trans (hb.mono H12.out.2.2.size))))
  clear hc hb H12
  have hc := gown_no (w := w13) (pv := .pointer none) (.inl rfl) x
  go_wp2_with fail
  refine hc.mono ?_
  rintro e w14 ⟨rfl, hb⟩
  have H14 := Lib.hid (And.intro (H13.out.1.below hb H13.out.1.inside) (And.intro (H13.out.2.1.below hb H13.out.2.1.inside) (H13.out.2.2.trans (hb.mono H13.out.2.2.size))))
  clear hc hb H13
  have hc := gpages_no (w := w14) (pv := .pointer none) (.inl rfl) 
  go_wp2_with fail
  refine hc.mono ?_
  rintro e w15 ⟨rfl, hb⟩
  have H15 := Lib.hid (And.intro (H14.out.1.below hb H14.out.1.inside) (And.intro (H14.out.2.1.below hb H14.out.2.1.inside) (H14.out.2.2.trans (hb.mono H14.out.2.2.size))))
  clear hc hb H14
  have hc := gpages_no (w := w15) (pv := .pointer (some ⟨w.heap.size + 1, 0, none⟩)) (.inr ⟨w.heap.size + 1, rfl, H15.out.2.1.inside, H15.out.2.1.cell 0⟩) 
  go_wp2_with fail
  refine hc.mono ?_
  rintro e w16 ⟨rfl, hb⟩
  have H16 := Lib.hid (And.intro (H15.out.1.below hb H15.out.1.inside) (And.intro (H15.out.2.1.below hb H15.out.2.1.inside) (H15.out.2.2.trans (hb.mono H15.out.2.2.size))))
  clear hc hb H15
  have hc := gmade_no (w := w16) (pv := .pointer none) (.inl rfl) 
  go_wp2_with fail
  refine hc.mono ?_
  rintro e w17 ⟨rfl, hb⟩
  have H17 := Lib.hid (And.intro (H16.out.1.below hb H16.out.1.inside) (And.intro (H16.out.2.1.below hb H16.out.2.1.inside) (H16.out.2.2.trans (hb.mono H16.out.2.2.size))))
  clear hc hb H16
  have hc := gmade_no (w := w17) (pv := .pointer (some ⟨w.heap.size + 1, 0, none⟩)) (.inr ⟨w.heap.size + 1, rfl, H17.out.2.1.inside, H17.out.2.1.cell 0⟩) 
  go_wp2_with fail
  refine hc.mono ?_
  rintro e w18 ⟨rfl, hb⟩
  have H18 := Lib.hid (And.intro (H17.out.1.below hb H17.out.1.inside) (And.intro (H17.out.2.1.below hb H17.out.2.1.inside) (H17.out.2.2.trans (hb.mono H17.out.2.2.size))))
  clear hc hb H17
  have hc := gdropped_no (w := w18) (pv := .pointer none) (.inl rfl) 
  go_wp2_with fail
  refine hc.mono ?_
  rintro e w19 ⟨rfl, hb⟩
  have H19 := Lib.hid (And.intro (H18.out.1.below hb H18.out.1.inside) (And.intro (H18.out.2.1.below hb H18.out.2.1.inside) (H18.out.2.2.trans (hb.mono H18.out.2.2.size))))
  clear hc hb H18
  have hc := gspare_no (w := w19) (pv := .pointer none) (.inl rfl) 
  go_wp2_with fail
  refine hc.mono ?_
  rintro e w20 ⟨rfl, hb⟩
  have H20 := Lib.hid (And.intro (H19.out.1.below hb H19.out.1.inside) (And.intro (H19.out.2.1.below hb H19.out.2.1.inside) (H19.out.2.2.trans (hb.mono H19.out.2.2.size))))
  clear hc hb H19
  go_wp2_with fail
  go_ret
  exact ⟨rfl, H20.out.2.2⟩

set_option maxRecDepth 100000 in
theorem contract (H : Type) (enc : TypeId × Value → H) (W : World) (base : Nat) (args : Array Value) (ds gs : List (DataW H)) (before : List MemPlace)
    (hval : ∀ (j : Nat) t v, Tryz.f3.params[j]? = some t → args[j]? = some v → Value.okWide Tryz.prog W .any base t v)
    (hW : DataW.Whole enc Tryz.prog Tryz.f3.params.toList Rows.pagerNoneSpec.vars false W args.toList ds gs before) (hL : laidMetH Tryz.prog Rows.pagerNoneRow.laid W) :
    Calls Tryz.prog 3 args W fun e W' => ∃ v, e = .returned v ∧ Rows.pagerNoneSpec.post enc Tryz.prog Tryz.f3 false true false false W args v W' := by
  have hW' := hW
  obtain ⟨p, q, hA0, hV, rfl, hfz, hnd⟩ := hW
  have hA : DataW.TrodAll enc Tryz.prog W 0 (fun _ => true) true Tryz.f3.params.toList args.toList ds p := hA0
  rw [Tryz.params3] at hA hval
  obtain ⟨v0, vs0, d0, ds0, p0, q0, hargs, rfl, rfl, h0, r00⟩ := trodAll_cons hA
  obtain ⟨v1, vs1, d1, ds1, p1, q1, rfl, rfl, rfl, h1, r01⟩ := trodAll_cons r00
  obtain ⟨rfl, rfl, rfl⟩ := trodAll_nil r01
  obtain rfl : args = #[v0, v1] := by cases args; simp_all
  obtain ⟨rfl, rfl⟩ := trodVars_none hV
  obtain ⟨n0, rfl, rfl, rfl, w0⟩ := open_int Tryz.underlying3 (hval 0 3 v0 rfl rfl) h0
  obtain ⟨k1, x1, s1, rfl, rfl, rfl, a1, b1, z1⟩ := open_page (hval 1 23 v1 rfl rfl) h1
  clear hA0
  refine (walk W n0 (isInt_of_wf w0) k1 x1 s1 (isInt_of_wf a1) (isInt_of_wf b1) (le_of_maxLen z1)).mono fun e W' ⟨he, hb⟩ => ?_
  subst he
  exact ⟨_, rfl, law_post hW' rfl rfl (by kernel_rfl) (by kernel_rfl) hb⟩

theorem reads (os : Os) {H : Type} (enc : TypeId × Value → H) : ∃ places, DataW.whole enc Tryz.prog ((laidWorld os).forCall (fun _ _ => 0) ⟨#[], #[.int .i64 0, .agg #[.int .i64 0, .int .i64 0, .string ByteArray.empty]], []⟩).memory Tryz.f3.params.toList Rows.pagerNoneSpec.vars false (#[.int .i64 0, .agg #[.int .i64 0, .int .i64 0, .string ByteArray.empty]] : Array Value).toList 8 = some ([.lit (.int .i64 0), .agg [.lit (.int .i64 0), .lit (.int .i64 0), .lit (.string [])]], [], places) :=
  ⟨[], by kernel_rfl⟩

set_option maxRecDepth 100000 in
theorem lifted (os : Os) (started : os.Started) (H : Type) (enc : TypeId × Value → H) (F : Stop.Interp) :
    ReturnsInHanded {} Tryz.checked os 3 .any ((OpenSpec.ofChange Rows.pagerNoneSpec).preRow enc Tryz.prog Tryz.f3 Rows.pagerNoneRow.domain false Rows.pagerNoneRow.laid) (((OpenSpec.ofChange Rows.pagerNoneSpec).at F).post enc Tryz.prog Tryz.f3 false true false false) := by
  obtain ⟨places, hx⟩ := reads os enc
  refine returnsInHanded_of_row (C := Tryz.checked) (s := OpenSpec.ofChange Rows.pagerNoneSpec) own started (by kernel_rfl) Tryz.func3
    (witness_row_at (enc := enc) (C := Tryz.checked) false (laidWorld os) #[.int .i64 0, .agg #[.int .i64 0, .int .i64 0, .string ByteArray.empty]] (laid_os os) (by kernel_rfl) (by kernel_rfl) (by kernel_rfl)
      (OpenSpec.preRow_of_cond 8 hx (by kernel_rfl) (fun k hk => by cases hk) (by kernel_rfl) (laid_met os _))) ?_
  intro W base args ds gs before hval hW _ _ _ hL _ _
  exact contract H enc W base args ds gs before hval hW hL

set_option maxRecDepth 100000 in
theorem said : Rows.PagerNoneSaid :=
  OpenClaim.holds_of_cond 3 Tryz.f3 rfl rfl rfl rfl rfl rfl rfl ⟨rfl, rfl, rfl, rfl, rfl⟩ rfl rfl rfl rfl rfl (by kernel_rfl) Tryz.func3 (by kernel_rfl)
    (of_decide_eq_true (by kernel_rfl)) (by unfold Func.isWrapper; first | (rw [if_pos (by decide +kernel)]; kernel_rfl) | (rw [if_neg (by decide +kernel)]; exact ⟨rfl, rfl⟩))
    (fun os started H enc _ F => by rw [OpenClaim.pre_eq_preRow]; exact lifted os started H enc F)

set_option maxRecDepth 100000 in
theorem plain (f : FuncId) (fn : Func) (hf : Tryz.pinned.checked.prog.funcNamed "arboretum/arboretumlaw7.PagerNone" = some f) (hfn : Tryz.pinned.checked.prog.funcs[f]? = some fn) :
    true = Tryz.pinned.checked.prog.looks [] ∧ ∀ (j : Nat) t, fn.params[j]? = some t → Tryz.pinned.checked.prog.wantsStandIn t = false := by
  obtain rfl : f = 3 := Option.some.inj ((show Tryz.prog.funcNamed "arboretum/arboretumlaw7.PagerNone" = some 3 by kernel_rfl).symm.trans hf) |>.symm
  obtain rfl : fn = Tryz.f3 := (Option.some.inj (Tryz.func3.symm.trans hfn)).symm
  refine ⟨by kernel_rfl, fun j t ht => ?_⟩
  rw [Tryz.params3] at ht
  have hm : t ∈ [3, 23] := by simpa using Array.mem_of_getElem? ht
  have hall : ([3, 23].all fun u => !Tryz.prog.wantsStandIn u) = true := by kernel_rfl
  exact (show Tryz.prog.wantsStandIn t = false by simpa using List.all_eq_true.1 hall t hm)

theorem card : Rows.PagerNoneCardSaid :=
  Claim7.holds_tied_plain_at .later [] _ _ _ _ said (fun _ h => by cases h) (by kernel_rfl) (fun _ h => by cases h) pagerNone_row_tie rfl ⟨rfl, rfl⟩ (by kernel_rfl) rfl plain (by kernel_rfl)

end Go.Proofs.YtmcfldcpmjdfbaaGreatDoor.pagerNone
