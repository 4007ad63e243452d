/-
  MetaNext: metas that are written one behind the other stand on both pages in turn, and the newest one is chosen, whatever the first number, how many there are, and the root. Conditions: the variables that the row lists are laid as its card says.
-/
import Derived.Test.YtccajgdfjinjbaaDoorT11
import Derived.Test.YtccajgdfjinjbaaDoorFrameL
namespace Go.Proofs.YtccajgdfjinjbaaDoor.metaNext
open Go.RowKit Go.Lib Go.ChangeShapes Go.WideShapes Go.ChangeAt

/-- Nothing that is read from the page is as new as t. -/
def Elder (g t : Int) (X : ByteArray) : Prop := ¬ GetOK g X.data.toList ∨ getN g X.data.toList 0 < t
theorem step {s : DevS} {X Y : ByteArray} {n : Nat} {t r f p : Int} (h : Two s X Y n) (hn : n ≤ 100) (hX : Elder 0 t X) (hY : Elder 1 t Y) (hok : MetaOK t r f p) :
    ∃ s' X' Y', Two s' X' Y' (n + 1) ∧ Elder 0 (t + 1) X' ∧ Elder 1 (t + 1) Y' ∧
      (∀ B q w L W, DevRun B w q s L W → Calls Tryd.prog 19 #[.pointer (some ⟨q, 0, none⟩), metaV t r f p] W fun e w' => e = .returned (.int .i64 0) ∧ DevRun B w q s' L w') ∧
      ∀ B q w L W, DevRun B w q s' L W → Calls Tryd.prog 20 #[.pointer (some ⟨q, 0, none⟩)] W fun e w' => e = .returned (.tuple #[metaV t r f p, .int .i64 0]) ∧ DevRun B w q s' L w' := by
  obtain ⟨s', h', -, -, hc⟩ := h.mwrite (by omega) t r f p hok
  by_cases hg : t % 2 = 0
  · rw [if_pos hg, if_pos hg] at h'
    obtain ⟨v, e⟩ := newest0 hok hg (y := Y.data.toList) hY
    refine ⟨s', _, _, h', .inr ?_, ?_, hc, ?_⟩
    · rw [(mB_get hok hg).2.2]; omega
    · exact hY.imp id (fun h => by omega)
    · have := h'.mchoose
      rwa [v, e] at this
  · rw [if_neg hg, if_neg hg] at h'
    have hg : t % 2 = 1 := by omega
    obtain ⟨v, e⟩ := newest1 hok hg (x := X.data.toList) hX
    refine ⟨s', _, _, h', ?_, .inr ?_, hc, ?_⟩
    · exact hX.imp id (fun h => by omega)
    · rw [(mB_get hok hg).2.2]; omega
    · have := h'.mchoose
      rwa [v, e] at this

/-- Where the loop stands behind j metas. -/
def At (w : World) (t : Int) (j : Nat) (W : World) : Prop := ∃ s X Y, Two s X Y j ∧ Elder 0 (t + j) X ∧ Elder 1 (t + j) Y ∧ DevRun w.heap.size w w.heap.size s [] W
theorem drop {B q : Nat} {w W : World} {s : DevS} {L : List (Nat × TypeId × Array Value)} (h : DevRun B w q s L W) : DevRun B w q s [] W := by
  obtain ⟨h0, h1, F, h2, h3, _⟩ := h
  exact ⟨h0, h1, F, h2, h3, by simp⟩
theorem none_run (B q : Nat) (w : World) (L : List (Nat × TypeId × Array Value)) (W : World) (hr : DevRun B w q (longer (newS 2) 2) L W) :
    Calls Tryd.prog 20 #[.pointer (some ⟨q, 0, none⟩)] W fun e w' => e = .returned (.tuple #[metaV 0 0 0 0, .int .i64 15]) ∧ DevRun B w q (longer (newS 2) 2) L w' := by
  have := Two.new.mchoose B q w L W hr
  rwa [choE_none (blank_get 0) (blank_get 1), choV_first (fun h => blank_get 1 h.1), (get_bad (blank_get 0)).1] at this

set_option maxRecDepth 100000 in
set_option maxHeartbeats 4000000 in
theorem walk_whole (w : World) (t n r : Int) (hin : 0 ≤ t ∧ t ≤ 1099511627776 ∧ 1 ≤ n ∧ n ≤ 12 ∧ 2 ≤ r ∧ r ≤ 1048576) : Calls Tryd.prog 5 #[.int .i64 t, .int .i64 n, .int .i64 r] w fun e w' => e = .returned (.bool true) ∧ Below w.heap.size w w' := by
  have HA := Lib.hid alive_walk
  obtain ⟨a, b, c, d, f, g⟩ := hin
  obtain ⟨m, rfl⟩ : ∃ m : Nat, n = m := ⟨n.toNat, by omega⟩
  have HN := Lib.hid none_run
  unfold metaV at HN
  go_enter Tryd.func5, Tryd.ntmps5
  go_wp2_with fail
  refine (new_run 2 w (by omega) (by omega)).mono ?_
  rintro e w1 ⟨rfl, hd⟩
  have H := Lib.hid hd
  clear hd
  go_wp2_with fail
  refine (grow2_run _ _ _ _ _ H.out).mono ?_
  rintro e w2 ⟨rfl, hd⟩
  have H2 := Lib.hid hd
  clear hd H
  go_wp2_with fail
  refine (HN.out _ _ _ _ _ H2.out).mono ?_
  rintro e w3 ⟨rfl, hd⟩
  have H3 := Lib.hid (hd.alloc (.cells #[.int .i64 0, .int .i64 0, .int .i64 0, .int .i64 0] 23))
  clear hd H2
  go_wp2_with fail
  go_loopw [11] (fun i wr => ∃ j : Nat, j ≤ m ∧ i = .int .i64 j ∧ At w t j wr) (fun i _ => m - (RowKit.intOf i).toNat)
  case atStart => exact ⟨0, Nat.zero_le _, rfl, _, _, _, Two.new, .inl (blank_get 0), .inl (blank_get 1), H3.out⟩
  case round =>
    clear H3
    obtain ⟨j, hj, rfl, s, X, Y, h2, hX, hY, hd⟩ := hrel
    by_cases hjm : j < m
    · have hlt : (j : Int) < (m : Int) := by omega
      obtain ⟨T, hT⟩ : ∃ T, t + (j : Int) = T := ⟨_, rfl⟩
      obtain ⟨R, hR⟩ : ∃ R, r + (j : Int) = R := ⟨_, rfl⟩
      rw [hT] at hX hY
      have hok : MetaOK T R j 3 := by unfold MetaOK Fits6; omega
      obtain ⟨s', X', Y', h2', hX', hY', hc, hv⟩ := step h2 (by omega) hX hY hok
      have e1 : IntKind.i64.wrap (t + (j : Int)) = T := by rw [IntKind.wrap_i64]; omega
      have e2 : IntKind.i64.wrap (r + (j : Int)) = R := by rw [IntKind.wrap_i64]; omega
      have e3 : T.tmod 2 = T % 2 := Int.tmod_eq_emod_of_nonneg (by omega)
      have HC := Lib.hid hc
      have HV := Lib.hid hv
      have HK := Lib.hid (And.intro h2' (And.intro hX' hY'))
      have HD := Lib.hid (hd.made 23 #[.int .i64 T, .int .i64 R, .int .i64 j, .int .i64 3])
      have hz : w.heap.size ≤ wr.heap.size := hd.above
      obtain ⟨⟨p0, p1, p2, p3⟩, -⟩ := (HD.out.side (.head _)).four
      unfold metaV at HC HV
      have HT := Lib.hid hT
      clear h2 hX hY hok h2' hX' hY' hc hv hd hT hR
      go_wp2_with fail
      refine (HC.out _ _ _ _ _ HD.out).mono ?_
      rintro e w4 ⟨rfl, hd⟩
      obtain ⟨⟨q0, q1, q2, q3⟩, -⟩ := (hd.side (.head _)).four
      have H4 := Lib.hid hd
      clear hd HD p0 p1 p2 p3
      go_wp2_with (go_at_call 9; refine (place_any _ _).mono ?_; rintro e w9 ⟨rfl, rfl⟩)
      refine (HV.out _ _ _ _ _ H4.out).mono ?_
      rintro e w5 ⟨rfl, hd⟩
      have hm := hd.made 23 #[.int .i64 T, .int .i64 R, .int .i64 j, .int .i64 3]
      obtain ⟨⟨a0, a1, a2, a3⟩, -⟩ := (hm.side (.tail _ (.head _))).four
      obtain ⟨⟨b0, b1, b2, b3⟩, -⟩ := (hm.side (.head _)).four
      have H5 := Lib.hid (drop hm)
      clear hd H4 q0 q1 q2 q3 hm
      go_wp2
      go_roundw
      case rel =>
        refine ⟨j + 1, by omega, by go_num, s', X', Y', HK.out.1, ?_, ?_, H5.out⟩
        · rw [show t + ((j + 1 : Nat) : Int) = T + 1 by have := HT.out; omega]
          exact HK.out.2.1
        · rw [show t + ((j + 1 : Nat) : Int) = T + 1 by have := HT.out; omega]
          exact HK.out.2.2
      case measure => simp [RowKit.intOf]; omega
    · obtain rfl : j = m := by omega
      have hlt : ((j : Int) < (j : Int)) = False := by simp
      have HB := Lib.hid hd.out
      have hz : w.heap.size ≤ wr.heap.size := hd.above
      clear h2 hX hY hd
      go_wp2_with fail
      refine (HA.out _).mono ?_
      rintro e w4 ⟨rfl, hb⟩
      have HE := Lib.hid (HB.out.trans (hb.mono hz))
      clear hb
      go_wp2
      go_ret
      exact ⟨rfl, HE.out⟩

set_option maxRecDepth 100000 in
set_option maxHeartbeats 4000000 in
theorem walk_out (w : World) (t n r : Int) (hin : ¬ (0 ≤ t ∧ t ≤ 1099511627776 ∧ 1 ≤ n ∧ n ≤ 12 ∧ 2 ≤ r ∧ r ≤ 1048576)) : Calls Tryd.prog 5 #[.int .i64 t, .int .i64 n, .int .i64 r] w fun e w' => e = .returned (.bool true) ∧ Below w.heap.size w w' := by
  have HA := Lib.hid alive_walk
  have hcase : t < 0 ∨ (0 ≤ t ∧ 1099511627776 < t) ∨ (0 ≤ t ∧ t ≤ 1099511627776 ∧ n < 1) ∨ (0 ≤ t ∧ t ≤ 1099511627776 ∧ 1 ≤ n ∧ 12 < n) ∨ (0 ≤ t ∧ t ≤ 1099511627776 ∧ 1 ≤ n ∧ n ≤ 12 ∧ r < 2) ∨ (0 ≤ t ∧ t ≤ 1099511627776 ∧ 1 ≤ n ∧ n ≤ 12 ∧ 2 ≤ r ∧ 1048576 < r) := by omega
  clear hin
  rcases hcase with a | ⟨a, b⟩ | ⟨a, b, c⟩ | ⟨a, b, c, d⟩ | ⟨a, b, c, d, f⟩ | ⟨a, b, c, d, f, g⟩
  all_goals
    go_enter Tryd.func5, Tryd.ntmps5
    go_wp2_with (go_at_call 6; refine (HA.out _).mono ?_; rintro e w2 ⟨rfl, hb2⟩)
    go_ret
    exact ⟨rfl, hb2⟩

theorem walk (w : World) (t : Int) (_ht : IsInt t) (n : Int) (_hn : IsInt n) (r : Int) (_hr : IsInt r) : Calls Tryd.prog 5 #[.int .i64 t, .int .i64 n, .int .i64 r] w fun e w' => e = .returned (.bool true) ∧ Below w.heap.size w w' := by
  by_cases hin : 0 ≤ t ∧ t ≤ 1099511627776 ∧ 1 ≤ n ∧ n ≤ 12 ∧ 2 ≤ r ∧ r ≤ 1048576
  · exact walk_whole w t n r hin
  · exact walk_out w t n r hin

set_option maxRecDepth 100000 in
theorem contract (H : Type) (enc : TypeId × Value → H) (W : World) (base : Nat) (args : Array Value) (ds gs : List (DataW H)) (before : List MemPlace)
    (hval : ∀ (j : Nat) t v, Tryd.f5.params[j]? = some t → args[j]? = some v → Value.okWide Tryd.prog W .any base t v)
    (hW : DataW.Whole enc Tryd.prog Tryd.f5.params.toList Rows.metaNextSpec.vars false W args.toList ds gs before) (hL : laidMetH Tryd.prog Rows.metaNextRow.laid W) :
    Calls Tryd.prog 5 args W fun e W' => ∃ v, e = .returned v ∧ Rows.metaNextSpec.post enc Tryd.prog Tryd.f5 false true false false W args v W' := by
  have hW' := hW
  obtain ⟨p, q, hA0, hV, rfl, hfz, hnd⟩ := hW
  have hA : DataW.TrodAll enc Tryd.prog W 0 (fun _ => true) true Tryd.f5.params.toList args.toList ds p := hA0
  rw [Tryd.params5] at hA hval
  obtain ⟨v0, vs0, d0, ds0, p0, q0, hargs, rfl, rfl, h0, r00⟩ := trodAll_cons hA
  obtain ⟨v1, vs1, d1, ds1, p1, q1, rfl, rfl, rfl, h1, r01⟩ := trodAll_cons r00
  obtain ⟨v2, vs2, d2, ds2, p2, q2, rfl, rfl, rfl, h2, r02⟩ := trodAll_cons r01
  obtain ⟨rfl, rfl, rfl⟩ := trodAll_nil r02
  obtain rfl : args = #[v0, v1, v2] := by cases args; simp_all
  obtain ⟨rfl, rfl⟩ := trodVars_none hV
  obtain ⟨n0, rfl, rfl, rfl, w0⟩ := open_int Tryd.underlying3 (hval 0 3 v0 rfl rfl) h0
  obtain ⟨n1, rfl, rfl, rfl, w1⟩ := open_int Tryd.underlying3 (hval 1 3 v1 rfl rfl) h1
  obtain ⟨n2, rfl, rfl, rfl, w2⟩ := open_int Tryd.underlying3 (hval 2 3 v2 rfl rfl) h2
  clear hA0
  refine (walk W n0 (isInt_of_wf w0) n1 (isInt_of_wf w1) n2 (isInt_of_wf w2)).mono fun e W' ⟨he, hb⟩ => ?_
  subst he
  exact ⟨_, rfl, law_post hW' rfl rfl (by kernel_rfl) (by kernel_rfl) hb⟩

theorem reads (os : Os) {H : Type} (enc : TypeId × Value → H) : ∃ places, DataW.whole enc Tryd.prog ((laidWorld os).forCall (fun _ _ => 0) ⟨#[], #[.int .i64 0, .int .i64 0, .int .i64 0], []⟩).memory Tryd.f5.params.toList Rows.metaNextSpec.vars false (#[.int .i64 0, .int .i64 0, .int .i64 0] : Array Value).toList 8 = some ([.lit (.int .i64 0), .lit (.int .i64 0), .lit (.int .i64 0)], [], places) :=
  ⟨[], by kernel_rfl⟩

set_option maxRecDepth 100000 in
theorem lifted (os : Os) (started : os.Started) (H : Type) (enc : TypeId × Value → H) (F : Stop.Interp) :
    ReturnsInHanded {} Tryd.checked os 5 .any ((OpenSpec.ofChange Rows.metaNextSpec).preRow enc Tryd.prog Tryd.f5 Rows.metaNextRow.domain false Rows.metaNextRow.laid) (((OpenSpec.ofChange Rows.metaNextSpec).at F).post enc Tryd.prog Tryd.f5 false true false false) := by
  obtain ⟨places, hx⟩ := reads os enc
  refine returnsInHanded_of_row (C := Tryd.checked) (s := OpenSpec.ofChange Rows.metaNextSpec) own started (by kernel_rfl) Tryd.func5
    (witness_row_at (enc := enc) (C := Tryd.checked) false (laidWorld os) #[.int .i64 0, .int .i64 0, .int .i64 0] (laid_os os) (by kernel_rfl) (by kernel_rfl) (by kernel_rfl)
      (OpenSpec.preRow_of_cond 8 hx (by kernel_rfl) (fun k hk => by cases hk) (by kernel_rfl) (laid_met os _))) ?_
  intro W base args ds gs before hval hW _ _ _ hL _ _
  exact contract H enc W base args ds gs before hval hW hL

set_option maxRecDepth 100000 in
theorem said : Rows.MetaNextSaid :=
  OpenClaim.holds_of_cond 5 Tryd.f5 rfl rfl rfl rfl rfl rfl rfl ⟨rfl, rfl, rfl, rfl, rfl⟩ rfl rfl rfl rfl rfl (by kernel_rfl) Tryd.func5 (by kernel_rfl)
    (of_decide_eq_true (by kernel_rfl)) (by unfold Func.isWrapper; first | (rw [if_pos (by decide +kernel)]; kernel_rfl) | (rw [if_neg (by decide +kernel)]; exact ⟨rfl, rfl⟩))
    (fun os started H enc _ F => by rw [OpenClaim.pre_eq_preRow]; exact lifted os started H enc F)

set_option maxRecDepth 100000 in
theorem plain (f : FuncId) (fn : Func) (hf : Tryd.pinned.checked.prog.funcNamed "arboretum/arboretumlaw5.MetaNext" = some f) (hfn : Tryd.pinned.checked.prog.funcs[f]? = some fn) :
    false = Tryd.pinned.checked.prog.looks [] ∧ ∀ (j : Nat) t, fn.params[j]? = some t → Tryd.pinned.checked.prog.wantsStandIn t = false := by
  obtain rfl : f = 5 := Option.some.inj ((show Tryd.prog.funcNamed "arboretum/arboretumlaw5.MetaNext" = some 5 by kernel_rfl).symm.trans hf) |>.symm
  obtain rfl : fn = Tryd.f5 := (Option.some.inj (Tryd.func5.symm.trans hfn)).symm
  refine ⟨by kernel_rfl, fun j t ht => ?_⟩
  rw [Tryd.params5] at ht
  have hm : t ∈ [3, 3, 3] := by simpa using Array.mem_of_getElem? ht
  have hall : ([3, 3, 3].all fun u => !Tryd.prog.wantsStandIn u) = true := by kernel_rfl
  exact (show Tryd.prog.wantsStandIn t = false by simpa using List.all_eq_true.1 hall t hm)

theorem card : Rows.MetaNextCardSaid :=
  Claim7.holds_tied_plain_at .later [] _ _ _ _ said (fun _ h => by cases h) (by kernel_rfl) (fun _ h => by cases h) metaNext_row_tie rfl ⟨rfl, rfl⟩ (by kernel_rfl) rfl plain (by kernel_rfl)

end Go.Proofs.YtccajgdfjinjbaaDoor.metaNext
