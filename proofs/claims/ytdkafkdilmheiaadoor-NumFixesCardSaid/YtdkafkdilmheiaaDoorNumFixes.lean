/-
  NumFixes: of a number laid in n bytes the lowest byte stands first, and a number that has too many bytes has none: for every two ints. Conditions: none but those of the given statement (the tables that the row lists hold what the program's text lays).
-/
import Derived.Test.YtdkafkdilmheiaaDoorFrame
namespace Go.Proofs.YtdkafkdilmheiaaDoor.numFixes
open Go.ChangeShapes Go.WideShapes Go.ChangeAt Go.RowKit Go.Lib

theorem fix_no (v n : Int) (w : World) (hv : IsInt v) (h : fixE v n ≠ 0) : Calls Tryd.prog 12 #[.int .i64 v, .int .i64 n] w fun e w' => e = .returned (.tuple #[.string ByteArray.empty, .int .i64 1]) ∧ Below w.heap.size w w' := by
  have hf := fix_any v n w hv.2
  unfold fixE at h
  have hn : ¬ (1 ≤ n ∧ n ≤ 7 ∧ 0 ≤ v ∧ v < 2 ^ (8 * n.toNat)) := by
    intro hc
    rw [if_pos hc] at h
    exact h rfl
  unfold fixB fixE at hf
  rw [if_neg hn, if_neg hn] at hf
  exact hf

theorem shr56_some {v : Nat} (h : ¬ v < 2 ^ 56) : (((v : Int) / 72057594037927936) != 0) = true := by
  simp
  omega
theorem shr56_none {v : Nat} (h : v < 2 ^ 56) : (((v : Int) / 72057594037927936) != 0) = false := by
  simp
  omega

set_option maxRecDepth 1000000 in
set_option maxHeartbeats 800000 in
theorem walk_bad (v n : Int) (w : World) (hv : IsInt v) (h : n < 1 ∨ 7 < n ∨ v < 0) (ht : TabOK w) : Calls Tryd.prog 8 #[.int .i64 v, .int .i64 n] w fun e w' => e = .returned (.bool true) ∧ Below w.heap.size w w' := by
  have HT := Lib.hid ht
  have hin := ht.inside
  have hf := fix_no v n w hv (by unfold fixE; rw [if_neg (by omega)]; decide)
  clear ht
  by_cases h1 : n < 1
  · go_enter Tryd.func8, Tryd.ntmps8
    go_wp2_with fail
    refine hf.mono ?_
    rintro e w1 ⟨rfl, hb1⟩
    have hs1 := hb1.size
    go_wp2_with (go_at_call 11; refine (alive_any _ (HT.out.below hb1 hin)).mono ?_; rintro e w2 ⟨rfl, hb2⟩)
    go_ret
    exact ⟨rfl, hb1.trans (hb2.mono hs1)⟩
  · by_cases h2 : 7 < n
    · go_enter Tryd.func8, Tryd.ntmps8
      go_wp2_with fail
      refine hf.mono ?_
      rintro e w1 ⟨rfl, hb1⟩
      have hs1 := hb1.size
      go_wp2_with (go_at_call 11; refine (alive_any _ (HT.out.below hb1 hin)).mono ?_; rintro e w2 ⟨rfl, hb2⟩)
      go_ret
      exact ⟨rfl, hb1.trans (hb2.mono hs1)⟩
    · have h3 : v < 0 := by omega
      go_enter Tryd.func8, Tryd.ntmps8
      go_wp2_with fail
      refine hf.mono ?_
      rintro e w1 ⟨rfl, hb1⟩
      have hs1 := hb1.size
      go_wp2_with (go_at_call 11; refine (alive_any _ (HT.out.below hb1 hin)).mono ?_; rintro e w2 ⟨rfl, hb2⟩)
      go_ret
      exact ⟨rfl, hb1.trans (hb2.mono hs1)⟩

set_option maxRecDepth 1000000 in
set_option maxHeartbeats 800000 in
theorem walk_big (v n : Nat) (w : World) (h1 : 1 ≤ n) (h7 : n ≤ 7) (hv : v ≤ 9223372036854775807) (hb : ¬ v < 2 ^ (8 * n)) (ht : TabOK w) : Calls Tryd.prog 8 #[.int .i64 v, .int .i64 n] w fun e w' => e = .returned (.bool true) ∧ Below w.heap.size w w' := by
  have HT := Lib.hid ht
  have hin := ht.inside
  have hf := fix_big v n w h1 h7 hb
  have hs := shr_some hb
  clear ht
  by_cases hn : n = 7
  · subst hn
    have hs7 := shr56_some hb
    go_enter Tryd.func8, Tryd.ntmps8
    go_wp2_with fail
    refine hf.mono ?_
    rintro e w1 ⟨rfl, rfl⟩
    go_wp2_with (go_at_call 11; refine (alive_any _ HT.out).mono ?_; rintro e w2 ⟨rfl, hb2⟩)
    go_ret
    exact ⟨rfl, hb2⟩
  · have hn7 : n < 7 := by omega
    go_enter Tryd.func8, Tryd.ntmps8
    go_wp2_with fail
    refine hf.mono ?_
    rintro e w1 ⟨rfl, rfl⟩
    go_wp2_with (go_at_call 11; refine (alive_any _ HT.out).mono ?_; rintro e w2 ⟨rfl, hb2⟩)
    go_ret
    exact ⟨rfl, hb2⟩

theorem byte_at {s : ByteArray} {v n j : Nat} (h : s.data.toList = leb n v) (hj : j < s.size) (hn : j < n) : s[j].toNat = v / 2 ^ (8 * j) % 256 := by
  have h1 : s.data.toList[j]? = some s[j] := by
    have := drop_cons s j hj
    have h2 : (s.data.toList.drop j)[0]? = some s[j] := by rw [this]; rfl
    simpa using h2
  rw [h, leb_get n v j hn] at h1
  have h2 := Option.some.inj h1
  rw [← h2, toUInt8_toNat (by omega)]
theorem shift_split (v j : Nat) : v / 2 ^ (8 * j) = v / 2 ^ (8 * (j + 1)) * 256 + v / 2 ^ (8 * j) % 256 := by
  have e : v / 2 ^ (8 * (j + 1)) = v / 2 ^ (8 * j) / 256 := by rw [Nat.div_div_eq_div_mul, show 8 * (j + 1) = 8 * j + 8 by omega, Nat.pow_add]
  rw [e]
  omega
theorem top_le {v j : Nat} (h : v < 2 ^ 56) : v / 2 ^ (8 * (j + 1)) ≤ 281474976710656 := by
  have e : v / 2 ^ (8 * (j + 1)) = v / 256 / 2 ^ (8 * j) := by rw [Nat.div_div_eq_div_mul, show 8 * (j + 1) = 8 + 8 * j by omega, Nat.pow_add]
  rw [e]
  exact Nat.le_trans (Nat.div_le_self _ _) (by omega)
theorem fold_step {v j c : Nat} (h : v < 2 ^ 56) (hc : c = v / 2 ^ (8 * j) % 256) : ((v / 2 ^ (8 * (j + 1)) : Nat) : Int) * 256 + (c : Int) = ((v / 2 ^ (8 * j) : Nat) : Int) := by
  have h1 := shift_split v j
  have h2 := top_le (j := j) h
  rw [← hc] at h1
  omega

set_option maxRecDepth 1000000 in
set_option maxHeartbeats 800000 in
theorem walk_ok (v n : Nat) (w : World) (h1 : 1 ≤ n) (h7 : n ≤ 7) (hv : v ≤ 9223372036854775807) (hb : v < 2 ^ (8 * n)) (ht : TabOK w) : Calls Tryd.prog 8 #[.int .i64 v, .int .i64 n] w fun e w' => e = .returned (.bool true) ∧ Below w.heap.size w w' := by
  have HT := Lib.hid ht
  have hin := ht.inside
  have hf := fix_ok v n w h1 h7 hv hb
  have hs := shr_zero hb
  have hv56 : v < 2 ^ 56 := Nat.lt_of_lt_of_le hb (Nat.pow_le_pow_right (by decide) (by omega))
  have hs7 := shr56_none hv56
  have hsz : (⟨(leb n v).toArray⟩ : ByteArray).size = n := by
    show (leb n v).toArray.size = n
    simp [leb_length]
  have HSZ := Lib.hid hsz
  have HB := Lib.hid hb
  generalize hs0 : (⟨(leb n v).toArray⟩ : ByteArray) = s at *
  have hs0' : s.data.toList = leb n v := by rw [← hs0]
  have HS := Lib.hid hs0'
  clear ht hb hsz hs0 hs0'
  go_enter Tryd.func8, Tryd.ntmps8
  go_wp2_with fail
  refine hf.mono ?_
  rintro e w1 ⟨rfl, hb1⟩
  have hne : ((s.size : Int) != (n : Int)) = false := by rw [HSZ.out]; simp
  by_cases hn7 : n < 7
  all_goals
    go_wp2
    go_loop [7, 8] (fun t i => ∃ (k : Nat) (m : Int), k ≤ n ∧ i = .int .i64 m ∧ m + 1 = k ∧ t = .int .i64 ((v / 2 ^ (8 * k) : Nat) : Int)) (fun _ i => (RowKit.intOf i + 1).toNat)
    case atStart => exact ⟨n, n - 1, Nat.le_refl _, rfl, by omega, by rw [Nat.div_eq_of_lt HB.out]; rfl⟩
    case round =>
      obtain ⟨k, m, hk, rfl, hm, rfl⟩ := hrel
      by_cases h0 : k = 0
      · subst h0
        obtain rfl : m = -1 := by omega
        have ev : ((v / 2 ^ (8 * 0) : Nat) : Int) = (v : Int) := by simp
        rw [ev]
        go_wp2_with fail
        refine (alive_any _ (HT.out.below hb1 hin)).mono ?_
        rintro e w2 ⟨rfl, hb2⟩
        have hs1 := hb1.size
        go_wp2
        go_ret
        exact ⟨ret_bool (by simp), hb1.trans (hb2.mono hs1)⟩
      · obtain ⟨j, rfl⟩ : ∃ j, k = j + 1 := ⟨k - 1, by omega⟩
        obtain rfl : m = (j : Int) := by omega
        have hjs : j < s.size := by rw [HSZ.out]; omega
        have hbyte : s[j].toNat = v / 2 ^ (8 * j) % 256 := byte_at HS.out hjs (by omega)
        have hst := fold_step hv56 hbyte
        have HST := Lib.hid hst
        have hT : v / 2 ^ (8 * (j + 1)) ≤ 281474976710656 := top_le hv56
        have hc := s[j].toNat_lt
        clear hbyte hst
        generalize v / 2 ^ (8 * (j + 1)) = T at *
        go_wp2
        exact ⟨⟨j, (j : Int) - 1, by omega, rfl, by omega, by rw [HST.out]⟩, by simp [RowKit.intOf]⟩

theorem walk (v : Int) (hv : IsInt v) (n : Int) (_hn : IsInt n) (w : World) (ht : TabOK w) : Calls Tryd.prog 8 #[.int .i64 v, .int .i64 n] w fun e w' => e = .returned (.bool true) ∧ Below w.heap.size w w' := by
  by_cases h : n < 1 ∨ 7 < n ∨ v < 0
  · exact walk_bad v n w hv h ht
  · obtain ⟨k, rfl⟩ : ∃ k : Nat, n = k := ⟨n.toNat, by omega⟩
    obtain ⟨u, rfl⟩ : ∃ u : Nat, v = u := ⟨v.toNat, by omega⟩
    have := hv.2
    by_cases hb : u < 2 ^ (8 * k)
    · exact walk_ok u k w (by omega) (by omega) (by omega) hb ht
    · exact walk_big u k w (by omega) (by omega) (by omega) hb ht

theorem contract (H : Type) (enc : TypeId × Value → H) (W : World) (base : Nat) (args : Array Value) (ds gs : List (DataW H)) (before : List MemPlace)
    (hval : ∀ (j : Nat) t v, Tryd.f8.params[j]? = some t → args[j]? = some v → Value.okWide Tryd.prog W .any base t v)
    (hW : DataW.Whole enc Tryd.prog Tryd.f8.params.toList Rows.numFixesSpec.vars false W args.toList ds gs before) (hL : laidMetH Tryd.prog Rows.numFixesRow.laid W) :
    Calls Tryd.prog 8 args W fun e W' => ∃ v, e = .returned v ∧ Rows.numFixesSpec.post enc Tryd.prog Tryd.f8 false true false false W args v W' := by
  have hW' := hW
  obtain ⟨p, q, hA0, hV, rfl, hfz, hnd⟩ := hW
  have hA : DataW.TrodAll enc Tryd.prog W 0 (fun _ => true) true Tryd.f8.params.toList args.toList ds p := hA0
  rw [Tryd.params8] at hA hval
  obtain ⟨v0, vs0, d0, ds0, p0, q0, hargs, rfl, rfl, h0, r00⟩ := trodAll_cons hA
  obtain ⟨v1, vs1, d1, ds1, p1, q1, rfl, rfl, rfl, h1, r01⟩ := trodAll_cons r00
  obtain ⟨rfl, rfl, rfl⟩ := trodAll_nil r01
  obtain rfl : args = #[v0, v1] := by cases args; simp_all
  obtain ⟨rfl, rfl⟩ := trodVars_none hV
  obtain ⟨n0, rfl, rfl, rfl, w0⟩ := open_int Tryd.underlying3 (hval 0 3 v0 rfl rfl) h0
  obtain ⟨n1, rfl, rfl, rfl, w1⟩ := open_int Tryd.underlying3 (hval 1 3 v1 rfl rfl) h1
  clear hA0
  refine (walk n0 (isInt_of_wf w0) n1 (isInt_of_wf w1) W (tab_ok hL)).mono fun e W' ⟨he, hb⟩ => ?_
  subst he
  exact ⟨_, rfl, law_post hW' rfl rfl (by kernel_rfl) (by kernel_rfl) hb⟩

theorem reads (os : Os) {H : Type} (enc : TypeId × Value → H) : ∃ places, DataW.whole enc Tryd.prog ((laidWorld os).forCall (fun _ _ => 0) ⟨#[], #[.int .i64 0, .int .i64 0], []⟩).memory Tryd.f8.params.toList Rows.numFixesSpec.vars false (#[.int .i64 0, .int .i64 0] : Array Value).toList 8 = some ([.lit (.int .i64 0), .lit (.int .i64 0)], [], places) :=
  ⟨[], by kernel_rfl⟩

set_option maxRecDepth 100000 in
theorem lifted (os : Os) (started : os.Started) (H : Type) (enc : TypeId × Value → H) (F : Stop.Interp) :
    ReturnsInHanded {} Tryd.checked os 8 .any ((OpenSpec.ofChange Rows.numFixesSpec).preRow enc Tryd.prog Tryd.f8 Rows.numFixesRow.domain false Rows.numFixesRow.laid) (((OpenSpec.ofChange Rows.numFixesSpec).at F).post enc Tryd.prog Tryd.f8 false true false false) := by
  obtain ⟨places, hx⟩ := reads os enc
  refine returnsInHanded_of_row (C := Tryd.checked) (s := OpenSpec.ofChange Rows.numFixesSpec) own started (by kernel_rfl) Tryd.func8
    (witness_row_at (enc := enc) (C := Tryd.checked) false (laidWorld os) #[.int .i64 0, .int .i64 0] rfl (by kernel_rfl) (by kernel_rfl) (by kernel_rfl)
      (OpenSpec.preRow_of_cond 8 hx (by kernel_rfl) (fun k hk => by cases hk) (by kernel_rfl) (laid_met os _))) ?_
  intro W base args ds gs before hval hW _ _ _ hL _ _
  exact contract H enc W base args ds gs before hval hW hL

theorem said : Rows.NumFixesSaid :=
  OpenClaim.holds_of_cond 8 Tryd.f8 rfl rfl rfl rfl rfl rfl rfl ⟨rfl, rfl, rfl, rfl, rfl⟩ rfl rfl rfl rfl rfl (by kernel_rfl) Tryd.func8 (by kernel_rfl)
    (of_decide_eq_true (by kernel_rfl)) (by unfold Func.isWrapper; first | (rw [if_pos (by decide +kernel)]; kernel_rfl) | (rw [if_neg (by decide +kernel)]; exact ⟨rfl, rfl⟩))
    (fun os started H enc _ F => by rw [OpenClaim.pre_eq_preRow]; exact lifted os started H enc F)

theorem plain (f : FuncId) (fn : Func) (hf : Tryd.pinned.checked.prog.funcNamed "arboretum/arboretumlaw1.NumFixes" = some f) (hfn : Tryd.pinned.checked.prog.funcs[f]? = some fn) :
    false = Tryd.pinned.checked.prog.looks [] ∧ ∀ (j : Nat) t, fn.params[j]? = some t → Tryd.pinned.checked.prog.wantsStandIn t = false := by
  obtain rfl : f = 8 := Option.some.inj ((show Tryd.prog.funcNamed "arboretum/arboretumlaw1.NumFixes" = some 8 by kernel_rfl).symm.trans hf) |>.symm
  obtain rfl : fn = Tryd.f8 := (Option.some.inj (Tryd.func8.symm.trans hfn)).symm
  refine ⟨by kernel_rfl, fun j t ht => ?_⟩
  rw [Tryd.params8] at ht
  have hm : t ∈ [3, 3] := by simpa using Array.mem_of_getElem? ht
  have hall : ([3, 3].all fun u => !Tryd.prog.wantsStandIn u) = true := by kernel_rfl
  exact (show Tryd.prog.wantsStandIn t = false by simpa using List.all_eq_true.1 hall t hm)

theorem card : Rows.NumFixesCardSaid :=
  Claim7.holds_tied_plain_at .later [] _ _ _ _ said (fun _ h => by cases h) (by kernel_rfl) (fun _ h => by cases h) numFixes_row_tie rfl ⟨rfl, rfl⟩ (by kernel_rfl) rfl plain (by kernel_rfl)

end Go.Proofs.YtdkafkdilmheiaaDoor.numFixes
