/-
  NumDigits: a number's digits are read as it was, if they are few enough, and two numbers have the same digits just if they are the same: for every two ints. Conditions: none but those of the given statement (the tables that the row lists hold what the program's text lays).
-/
import Derived.Test.YtdkafkdilmheiaaDoorFrame
import Derived.Test.YtdkafkdilmheiaaDoorMath2
import Derived.Lib.ItoaLen
namespace Go.Proofs.YtdkafkdilmheiaaDoor.numDigits
open Go.ChangeShapes Go.WideShapes Go.ChangeAt Go.RowKit Go.Lib

theorem number_of (l : List UInt8) (w : World) (hl : l.length ≤ 9223372036854775807) (x e : Int) (hx : (numOf l).getD 0 = x) (he : (if (numOf l).isSome then (0 : Int) else 1) = e) :
    Calls Tryd.prog 16 #[.string ⟨l.toArray⟩] w fun en w' => en = .returned (.tuple #[.int .i64 x, .int .i64 e]) ∧ w = w' := by
  have h := number_any ⟨l.toArray⟩ w (by show l.toArray.size ≤ _; simpa using hl)
  unfold numPost at h
  rw [show (⟨l.toArray⟩ : ByteArray).data.toList = l from by simp, hx, he] at h
  exact h

theorem itoa_eq (a b : Int) : ((itoa a == itoa b) == (a == b)) = true := by
  rw [beq_iff_eq, Bool.eq_iff_iff, beq_iff_eq, beq_iff_eq]
  exact ⟨itoa_inj, fun h => by rw [h]⟩

set_option maxRecDepth 1000000 in
set_option maxHeartbeats 800000 in
theorem walk (a : Int) (ha : IsInt a) (b : Int) (hb : IsInt b) (w : World) (ht : TabOK w) : Calls Tryd.prog 7 #[.int .i64 a, .int .i64 b] w fun e w' => e = .returned (.bool true) ∧ Below w.heap.size w w' := by
  have hin := ht.inside
  have hnum := num_itoa a
  have hlen := itoa_length_le a ha.1 ha.2
  have HEQ := Lib.hid (itoa_eq a b)
  have HT := Lib.hid ht
  clear ht
  by_cases h1 : -1000000000000000000 < a
  · by_cases h2 : a < 1000000000000000000
    · have hn : numOf (itoa a) = some a := by rw [hnum, if_pos ⟨h1, h2⟩]
      have hnb := fun w => number_of (itoa a) w (by omega) a 0 (by rw [hn]; rfl) (by rw [hn]; rfl)
      clear hn hnum
      go_enter Tryd.func7, Tryd.ntmps7
      go_wp2_with fail
      refine (digits_any a _ ha HT.out).mono ?_
      rintro e w1 ⟨rfl, hb1⟩
      have hs1 := hb1.size
      go_wp2_with fail
      refine (hnb _).mono ?_
      rintro e w' ⟨rfl, rfl⟩
      go_wp2_with fail
      refine (alive_any _ (HT.out.below hb1 hin)).mono ?_
      rintro e w2 ⟨rfl, hb2⟩
      have hs2 := hb2.size
      have hb12 := hb1.trans (hb2.mono hs1)
      go_wp2_with fail
      refine (digits_any a _ ha (HT.out.below hb12 hin)).mono ?_
      rintro e w3 ⟨rfl, hb3⟩
      have hs3 := hb3.size
      have hb13 := hb12.trans (hb3.mono (by omega))
      go_wp2_with fail
      refine (digits_any b _ hb (HT.out.below hb13 hin)).mono ?_
      rintro e w4 ⟨rfl, hb4⟩
      go_wp2
      rw [HEQ.out]
      go_ret
      exact ⟨rfl, hb13.trans (hb4.mono (by omega))⟩
    · have hn : numOf (itoa a) = none := by rw [hnum, if_neg (by omega)]
      have hnb := fun w => number_of (itoa a) w (by omega) 0 1 (by rw [hn]; rfl) (by rw [hn]; rfl)
      clear hn hnum
      go_enter Tryd.func7, Tryd.ntmps7
      go_wp2_with fail
      refine (digits_any a _ ha HT.out).mono ?_
      rintro e w1 ⟨rfl, hb1⟩
      have hs1 := hb1.size
      go_wp2_with fail
      refine (hnb _).mono ?_
      rintro e w' ⟨rfl, rfl⟩
      go_wp2_with fail
      refine (alive_any _ (HT.out.below hb1 hin)).mono ?_
      rintro e w2 ⟨rfl, hb2⟩
      have hs2 := hb2.size
      have hb12 := hb1.trans (hb2.mono hs1)
      go_wp2_with fail
      refine (digits_any a _ ha (HT.out.below hb12 hin)).mono ?_
      rintro e w3 ⟨rfl, hb3⟩
      have hs3 := hb3.size
      have hb13 := hb12.trans (hb3.mono (by omega))
      go_wp2_with fail
      refine (digits_any b _ hb (HT.out.below hb13 hin)).mono ?_
      rintro e w4 ⟨rfl, hb4⟩
      go_wp2
      rw [HEQ.out]
      go_ret
      exact ⟨rfl, hb13.trans (hb4.mono (by omega))⟩
  · have hn : numOf (itoa a) = none := by rw [hnum, if_neg (by omega)]
    have hnb := fun w => number_of (itoa a) w (by omega) 0 1 (by rw [hn]; rfl) (by rw [hn]; rfl)
    clear hn hnum
    go_enter Tryd.func7, Tryd.ntmps7
    go_wp2_with fail
    refine (digits_any a _ ha HT.out).mono ?_
    rintro e w1 ⟨rfl, hb1⟩
    have hs1 := hb1.size
    go_wp2_with fail
    refine (hnb _).mono ?_
    rintro e w' ⟨rfl, rfl⟩
    go_wp2_with fail
    refine (alive_any _ (HT.out.below hb1 hin)).mono ?_
    rintro e w2 ⟨rfl, hb2⟩
    have hs2 := hb2.size
    have hb12 := hb1.trans (hb2.mono hs1)
    go_wp2_with fail
    refine (digits_any a _ ha (HT.out.below hb12 hin)).mono ?_
    rintro e w3 ⟨rfl, hb3⟩
    have hs3 := hb3.size
    have hb13 := hb12.trans (hb3.mono (by omega))
    go_wp2_with fail
    refine (digits_any b _ hb (HT.out.below hb13 hin)).mono ?_
    rintro e w4 ⟨rfl, hb4⟩
    go_wp2
    rw [HEQ.out]
    go_ret
    exact ⟨rfl, hb13.trans (hb4.mono (by omega))⟩

theorem contract (H : Type) (enc : TypeId × Value → H) (W : World) (base : Nat) (args : Array Value) (ds gs : List (DataW H)) (before : List MemPlace)
    (hval : ∀ (j : Nat) t v, Tryd.f7.params[j]? = some t → args[j]? = some v → Value.okWide Tryd.prog W .any base t v)
    (hW : DataW.Whole enc Tryd.prog Tryd.f7.params.toList Rows.numDigitsSpec.vars false W args.toList ds gs before) (hL : laidMetH Tryd.prog Rows.numDigitsRow.laid W) :
    Calls Tryd.prog 7 args W fun e W' => ∃ v, e = .returned v ∧ Rows.numDigitsSpec.post enc Tryd.prog Tryd.f7 false true false false W args v W' := by
  have hW' := hW
  obtain ⟨p, q, hA0, hV, rfl, hfz, hnd⟩ := hW
  have hA : DataW.TrodAll enc Tryd.prog W 0 (fun _ => true) true Tryd.f7.params.toList args.toList ds p := hA0
  rw [Tryd.params7] at hA hval
  obtain ⟨v0, vs0, d0, ds0, p0, q0, hargs, rfl, rfl, h0, r00⟩ := trodAll_cons hA
  obtain ⟨v1, vs1, d1, ds1, p1, q1, rfl, rfl, rfl, h1, r01⟩ := trodAll_cons r00
  obtain ⟨rfl, rfl, rfl⟩ := trodAll_nil r01
  obtain rfl : args = #[v0, v1] := by cases args; simp_all
  obtain ⟨rfl, rfl⟩ := trodVars_none hV
  obtain ⟨n0, rfl, rfl, rfl, w0⟩ := open_int Tryd.underlying3 (hval 0 3 v0 rfl rfl) h0
  obtain ⟨n1, rfl, rfl, rfl, w1⟩ := open_int Tryd.underlying3 (hval 1 3 v1 rfl rfl) h1
  clear hA0
  refine (walk n0 (isInt_of_wf w0) n1 (isInt_of_wf w1) W (tab_ok hL)).mono fun e W' ⟨he, hb⟩ => ?_
  subst he
  exact ⟨_, rfl, law_post hW' rfl rfl (by kernel_rfl) (by kernel_rfl) hb⟩

theorem reads (os : Os) {H : Type} (enc : TypeId × Value → H) : ∃ places, DataW.whole enc Tryd.prog ((laidWorld os).forCall (fun _ _ => 0) ⟨#[], #[.int .i64 0, .int .i64 0], []⟩).memory Tryd.f7.params.toList Rows.numDigitsSpec.vars false (#[.int .i64 0, .int .i64 0] : Array Value).toList 8 = some ([.lit (.int .i64 0), .lit (.int .i64 0)], [], places) :=
  ⟨[], by kernel_rfl⟩

set_option maxRecDepth 100000 in
theorem lifted (os : Os) (started : os.Started) (H : Type) (enc : TypeId × Value → H) (F : Stop.Interp) :
    ReturnsInHanded {} Tryd.checked os 7 .any ((OpenSpec.ofChange Rows.numDigitsSpec).preRow enc Tryd.prog Tryd.f7 Rows.numDigitsRow.domain false Rows.numDigitsRow.laid) (((OpenSpec.ofChange Rows.numDigitsSpec).at F).post enc Tryd.prog Tryd.f7 false true false false) := by
  obtain ⟨places, hx⟩ := reads os enc
  refine returnsInHanded_of_row (C := Tryd.checked) (s := OpenSpec.ofChange Rows.numDigitsSpec) own started (by kernel_rfl) Tryd.func7
    (witness_row_at (enc := enc) (C := Tryd.checked) false (laidWorld os) #[.int .i64 0, .int .i64 0] rfl (by kernel_rfl) (by kernel_rfl) (by kernel_rfl)
      (OpenSpec.preRow_of_cond 8 hx (by kernel_rfl) (fun k hk => by cases hk) (by kernel_rfl) (laid_met os _))) ?_
  intro W base args ds gs before hval hW _ _ _ hL _ _
  exact contract H enc W base args ds gs before hval hW hL

theorem said : Rows.NumDigitsSaid :=
  OpenClaim.holds_of_cond 7 Tryd.f7 rfl rfl rfl rfl rfl rfl rfl ⟨rfl, rfl, rfl, rfl, rfl⟩ rfl rfl rfl rfl rfl (by kernel_rfl) Tryd.func7 (by kernel_rfl)
    (of_decide_eq_true (by kernel_rfl)) (by unfold Func.isWrapper; first | (rw [if_pos (by decide +kernel)]; kernel_rfl) | (rw [if_neg (by decide +kernel)]; exact ⟨rfl, rfl⟩))
    (fun os started H enc _ F => by rw [OpenClaim.pre_eq_preRow]; exact lifted os started H enc F)

theorem plain (f : FuncId) (fn : Func) (hf : Tryd.pinned.checked.prog.funcNamed "arboretum/arboretumlaw1.NumDigits" = some f) (hfn : Tryd.pinned.checked.prog.funcs[f]? = some fn) :
    false = Tryd.pinned.checked.prog.looks [] ∧ ∀ (j : Nat) t, fn.params[j]? = some t → Tryd.pinned.checked.prog.wantsStandIn t = false := by
  obtain rfl : f = 7 := Option.some.inj ((show Tryd.prog.funcNamed "arboretum/arboretumlaw1.NumDigits" = some 7 by kernel_rfl).symm.trans hf) |>.symm
  obtain rfl : fn = Tryd.f7 := (Option.some.inj (Tryd.func7.symm.trans hfn)).symm
  refine ⟨by kernel_rfl, fun j t ht => ?_⟩
  rw [Tryd.params7] at ht
  have hm : t ∈ [3, 3] := by simpa using Array.mem_of_getElem? ht
  have hall : ([3, 3].all fun u => !Tryd.prog.wantsStandIn u) = true := by kernel_rfl
  exact (show Tryd.prog.wantsStandIn t = false by simpa using List.all_eq_true.1 hall t hm)

theorem card : Rows.NumDigitsCardSaid :=
  Claim7.holds_tied_plain_at .later [] _ _ _ _ said (fun _ h => by cases h) (by kernel_rfl) (fun _ h => by cases h) numDigits_row_tie rfl ⟨rfl, rfl⟩ (by kernel_rfl) rfl plain (by kernel_rfl)

end Go.Proofs.YtdkafkdilmheiaaDoor.numDigits
