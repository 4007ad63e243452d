/-
  PageBounds: whatever the numbers and the body's length, Seal tells a page just if they fit, and says what does not. Conditions: the variables that the row lists are laid as its card says.
-/
import Derived.Test.YtaliepcbkfnlhaaDoorS7
import Derived.Test.YtaliepcbkfnlhaaDoorFrameL
namespace Go.Proofs.YtaliepcbkfnlhaaDoor.pageBounds
open Go.RowKit Go.Lib Go.ChangeShapes Go.WideShapes Go.ChangeAt

def zerosB (m : Nat) : ByteArray := ⟨(List.replicate m (0 : UInt8)).toArray⟩
theorem zerosB_size (m : Nat) : (zerosB m).size = m := by show Array.size _ = m; simp
theorem zerosB_len (m : Nat) : (zerosB m).data.toList.length = m := by simp [zerosB]

/-- What Seal tells, in few words: where all fits, or not. -/
theorem seal_bad (id kind next : Int) (m : Nat) (E : Int) (hi : IsInt id) (hk : IsInt kind) (hn : IsInt next) (hm : m ≤ 400) (h : ¬ SealOK id kind next ∧ E = 1 ∨ 240 < m ∧ SealOK id kind next ∧ E = 2) (w : World) :
    Calls Tryd.prog 7 #[.int .i64 id, .agg #[.int .i64 kind, .int .i64 next, .string (zerosB m)]] w fun e w' => e = .returned (.tuple #[.string ⟨#[]⟩, .int .i64 E]) ∧ Below w.heap.size w w' := by
  have r := seal_any id kind next (zerosB m) w hi hk hn (by rw [zerosB_size]; omega)
  rw [zerosB_size] at r
  rcases h with ⟨h, rfl⟩ | ⟨h1, h, rfl⟩
  · rw [sealB, sealE, if_neg h, if_neg (fun x => h x.1)] at r
    exact r
  · rw [sealB, sealE, if_pos h, if_neg (show ¬ m ≤ 240 by omega), if_neg (show ¬ (SealOK id kind next ∧ (zerosB m).data.toList.length ≤ 240) from fun x => by have := x.2; rw [zerosB_len] at this; omega)] at r
    exact r
theorem seal_good (id kind next : Int) (m : Nat) (hi : IsInt id) (hk : IsInt kind) (hn : IsInt next) (hm : m ≤ 240) (h : SealOK id kind next) :
    ∃ X : ByteArray, (X.size : Int) = 256 ∧ ∀ w : World, Calls Tryd.prog 7 #[.int .i64 id, .agg #[.int .i64 kind, .int .i64 next, .string (zerosB m)]] w fun e w' => e = .returned (.tuple #[.string X, .int .i64 0]) ∧ Below w.heap.size w w' := by
  refine ⟨⟨(sealB id kind next (zerosB m).data.toList).toArray⟩, ?_, fun w => ?_⟩
  · show ((Array.size _ : Nat) : Int) = 256
    rw [List.size_toArray, sealB, if_pos ⟨h, by rw [zerosB_len]; exact hm⟩, pageB_len (by rw [zerosB_len]; exact hm)]
    rfl
  · have r := seal_any id kind next (zerosB m) w hi hk hn (by rw [zerosB_size]; omega)
    rw [zerosB_size] at r
    rw [sealE, if_pos h, if_pos hm] at r
    exact r

set_option maxRecDepth 100000 in
set_option maxHeartbeats 4000000 in
theorem walk (w : World) (id : Int) (hi : IsInt id) (next : Int) (hx : IsInt next) (kind : Int) (hk : IsInt kind) (n : Int) (hn : IsInt n) : Calls Tryd.prog 5 #[.int .i64 id, .int .i64 next, .int .i64 kind, .int .i64 n] w fun e w' => e = .returned (.bool true) ∧ Below w.heap.size w w' := by
  by_cases h1 : n < 0
  · have e1 : decide (n < 0) = true := by simpa using h1
    go_enter Tryd.func5, Tryd.ntmps5
    go_wp2_with (go_at_call 6; refine (alive_walk _).mono ?_; rintro e w2 ⟨rfl, hb2⟩)
    go_ret
    exact ⟨rfl, hb2⟩
  by_cases h2 : 400 < n
  · go_enter Tryd.func5, Tryd.ntmps5
    go_wp2_with (go_at_call 6; refine (alive_walk _).mono ?_; rintro e w2 ⟨rfl, hb2⟩)
    go_ret
    exact ⟨rfl, hb2⟩
  obtain ⟨m, rfl⟩ : ∃ m : Nat, n = m := ⟨n.toNat, by omega⟩
  have hm : m ≤ 400 := by omega
  by_cases hok : SealOK id kind next
  · have hok' := hok
    obtain ⟨a, b, c, d, f, g⟩ := hok'
    have e5 : decide (kind ≤ 255) = true := by simp; omega
    by_cases h3 : m ≤ 240
    · obtain ⟨X, hX, hS⟩ := seal_good id kind next m hi hk hx h3 hok
      have HS := Lib.hid hS
      clear hok hS hi hx hk hn
      go_enter Tryd.func5, Tryd.ntmps5
      go_wp2_with (at_make; refine make_bytes _ rfl _ _ rfl m (by rfl) (by rfl) (by omega) ?_; intro w5 hrow hb5; have hstr := row_string hrow; change _ = Result.ok (Value.string (zerosB m)) _ at hstr)
      refine (HS.out _).mono ?_
      rintro e w6 ⟨rfl, hb6⟩
      go_wp2_with (go_at_call 6; refine (alive_walk _).mono ?_; rintro e w2 ⟨rfl, hb2⟩)
      go_ret
      exact ⟨rfl, hb5.trans ((hb6.mono hb5.size).trans (hb2.mono (Nat.le_trans hb5.size hb6.size)))⟩
    · have hS := fun w => seal_bad id kind next m 2 hi hk hx hm (.inr ⟨by omega, hok, rfl⟩) w
      have HS := Lib.hid hS
      clear hok hS hi hx hk hn
      go_enter Tryd.func5, Tryd.ntmps5
      go_wp2_with (at_make; refine make_bytes _ rfl _ _ rfl m (by rfl) (by rfl) (by omega) ?_; intro w5 hrow hb5; have hstr := row_string hrow; change _ = Result.ok (Value.string (zerosB m)) _ at hstr)
      refine (HS.out _).mono ?_
      rintro e w6 ⟨rfl, hb6⟩
      go_wp2_with (go_at_call 6; refine (alive_walk _).mono ?_; rintro e w2 ⟨rfl, hb2⟩)
      go_ret
      exact ⟨rfl, hb5.trans ((hb6.mono hb5.size).trans (hb2.mono (Nat.le_trans hb5.size hb6.size)))⟩
  · have hS := fun w => seal_bad id kind next m 1 hi hk hx hm (.inl ⟨hok, rfl⟩) w
    have HS := Lib.hid hS
    have hcase : id < 0 ∨ (0 ≤ id ∧ 4294967296 ≤ id) ∨ (0 ≤ id ∧ id < 4294967296 ∧ next < 0) ∨ (0 ≤ id ∧ id < 4294967296 ∧ 0 ≤ next ∧ 4294967296 ≤ next) ∨ (0 ≤ id ∧ id < 4294967296 ∧ 0 ≤ next ∧ next < 4294967296 ∧ kind < 1) ∨ (0 ≤ id ∧ id < 4294967296 ∧ 0 ≤ next ∧ next < 4294967296 ∧ 1 ≤ kind ∧ 255 < kind) := by
      unfold SealOK at hok
      omega
    clear hok hS hi hx hk hn
    rcases hcase with a | ⟨a, b⟩ | ⟨a, b, c⟩ | ⟨a, b, c, d⟩ | ⟨a, b, c, d, f⟩ | ⟨a, b, c, d, f, g⟩
    all_goals
      have e5 : 255 < kind → decide (kind ≤ 255) = false := fun h => by simp; omega
      try replace e5 := e5 g
      go_enter Tryd.func5, Tryd.ntmps5
      go_wp2_with (at_make; refine make_bytes _ rfl _ _ rfl m (by rfl) (by rfl) (by omega) ?_; intro w5 hrow hb5; have hstr := row_string hrow; change _ = Result.ok (Value.string (zerosB m)) _ at hstr)
      refine (HS.out _).mono ?_
      rintro e w6 ⟨rfl, hb6⟩
      go_wp2_with (go_at_call 6; refine (alive_walk _).mono ?_; rintro e w2 ⟨rfl, hb2⟩)
      go_ret
      exact ⟨rfl, hb5.trans ((hb6.mono hb5.size).trans (hb2.mono (Nat.le_trans hb5.size hb6.size)))⟩

theorem contract (H : Type) (enc : TypeId × Value → H) (W : World) (base : Nat) (args : Array Value) (ds gs : List (DataW H)) (before : List MemPlace)
    (hval : ∀ (j : Nat) t v, Tryd.f5.params[j]? = some t → args[j]? = some v → Value.okWide Tryd.prog W .any base t v)
    (hW : DataW.Whole enc Tryd.prog Tryd.f5.params.toList Rows.pageBoundsSpec.vars false W args.toList ds gs before) (hL : laidMetH Tryd.prog Rows.pageBoundsRow.laid W) :
    Calls Tryd.prog 5 args W fun e W' => ∃ v, e = .returned v ∧ Rows.pageBoundsSpec.post enc Tryd.prog Tryd.f5 false true false false W args v W' := by
  have hW' := hW
  obtain ⟨p, q, hA0, hV, rfl, hfz, hnd⟩ := hW
  have hA : DataW.TrodAll enc Tryd.prog W 0 (fun _ => true) true Tryd.f5.params.toList args.toList ds p := hA0
  rw [Tryd.params5] at hA hval
  obtain ⟨v0, vs0, d0, ds0, p0, q0, hargs, rfl, rfl, h0, r00⟩ := trodAll_cons hA
  obtain ⟨v1, vs1, d1, ds1, p1, q1, rfl, rfl, rfl, h1, r01⟩ := trodAll_cons r00
  obtain ⟨v2, vs2, d2, ds2, p2, q2, rfl, rfl, rfl, h2, r02⟩ := trodAll_cons r01
  obtain ⟨v3, vs3, d3, ds3, p3, q3, rfl, rfl, rfl, h3, r03⟩ := trodAll_cons r02
  obtain ⟨rfl, rfl, rfl⟩ := trodAll_nil r03
  obtain rfl : args = #[v0, v1, v2, v3] := by cases args; simp_all
  obtain ⟨rfl, rfl⟩ := trodVars_none hV
  obtain ⟨n0, rfl, rfl, rfl, w0⟩ := open_int Tryd.underlying3 (hval 0 3 v0 rfl rfl) h0
  obtain ⟨n1, rfl, rfl, rfl, w1⟩ := open_int Tryd.underlying3 (hval 1 3 v1 rfl rfl) h1
  obtain ⟨n2, rfl, rfl, rfl, w2⟩ := open_int Tryd.underlying3 (hval 2 3 v2 rfl rfl) h2
  obtain ⟨n3, rfl, rfl, rfl, w3⟩ := open_int Tryd.underlying3 (hval 3 3 v3 rfl rfl) h3
  clear hA0
  refine (walk W n0 (isInt_of_wf w0) n1 (isInt_of_wf w1) n2 (isInt_of_wf w2) n3 (isInt_of_wf w3)).mono fun e W' ⟨he, hb⟩ => ?_
  subst he
  exact ⟨_, rfl, law_post hW' rfl rfl (by kernel_rfl) (by kernel_rfl) hb⟩

theorem reads (os : Os) {H : Type} (enc : TypeId × Value → H) : ∃ places, DataW.whole enc Tryd.prog ((laidWorld os).forCall (fun _ _ => 0) ⟨#[], #[.int .i64 0, .int .i64 0, .int .i64 0, .int .i64 0], []⟩).memory Tryd.f5.params.toList Rows.pageBoundsSpec.vars false (#[.int .i64 0, .int .i64 0, .int .i64 0, .int .i64 0] : Array Value).toList 8 = some ([.lit (.int .i64 0), .lit (.int .i64 0), .lit (.int .i64 0), .lit (.int .i64 0)], [], places) :=
  ⟨[], by kernel_rfl⟩

set_option maxRecDepth 100000 in
theorem lifted (os : Os) (started : os.Started) (H : Type) (enc : TypeId × Value → H) (F : Stop.Interp) :
    ReturnsInHanded {} Tryd.checked os 5 .any ((OpenSpec.ofChange Rows.pageBoundsSpec).preRow enc Tryd.prog Tryd.f5 Rows.pageBoundsRow.domain false Rows.pageBoundsRow.laid) (((OpenSpec.ofChange Rows.pageBoundsSpec).at F).post enc Tryd.prog Tryd.f5 false true false false) := by
  obtain ⟨places, hx⟩ := reads os enc
  refine returnsInHanded_of_row (C := Tryd.checked) (s := OpenSpec.ofChange Rows.pageBoundsSpec) own started (by kernel_rfl) Tryd.func5
    (witness_row_at (enc := enc) (C := Tryd.checked) false (laidWorld os) #[.int .i64 0, .int .i64 0, .int .i64 0, .int .i64 0] (laid_os os) (by kernel_rfl) (by kernel_rfl) (by kernel_rfl)
      (OpenSpec.preRow_of_cond 8 hx (by kernel_rfl) (fun k hk => by cases hk) (by kernel_rfl) (laid_met os _))) ?_
  intro W base args ds gs before hval hW _ _ _ hL _ _
  exact contract H enc W base args ds gs before hval hW hL

theorem said : Rows.PageBoundsSaid :=
  OpenClaim.holds_of_cond 5 Tryd.f5 rfl rfl rfl rfl rfl rfl rfl ⟨rfl, rfl, rfl, rfl, rfl⟩ rfl rfl rfl rfl rfl (by kernel_rfl) Tryd.func5 (by kernel_rfl)
    (of_decide_eq_true (by kernel_rfl)) (by unfold Func.isWrapper; first | (rw [if_pos (by decide +kernel)]; kernel_rfl) | (rw [if_neg (by decide +kernel)]; exact ⟨rfl, rfl⟩))
    (fun os started H enc _ F => by rw [OpenClaim.pre_eq_preRow]; exact lifted os started H enc F)

theorem plain (f : FuncId) (fn : Func) (hf : Tryd.pinned.checked.prog.funcNamed "arboretum/arboretumlaw4.PageBounds" = some f) (hfn : Tryd.pinned.checked.prog.funcs[f]? = some fn) :
    false = Tryd.pinned.checked.prog.looks [] ∧ ∀ (j : Nat) t, fn.params[j]? = some t → Tryd.pinned.checked.prog.wantsStandIn t = false := by
  obtain rfl : f = 5 := Option.some.inj ((show Tryd.prog.funcNamed "arboretum/arboretumlaw4.PageBounds" = some 5 by kernel_rfl).symm.trans hf) |>.symm
  obtain rfl : fn = Tryd.f5 := (Option.some.inj (Tryd.func5.symm.trans hfn)).symm
  refine ⟨by kernel_rfl, fun j t ht => ?_⟩
  rw [Tryd.params5] at ht
  have hm : t ∈ [3, 3, 3, 3] := by simpa using Array.mem_of_getElem? ht
  have hall : ([3, 3, 3, 3].all fun u => !Tryd.prog.wantsStandIn u) = true := by kernel_rfl
  exact (show Tryd.prog.wantsStandIn t = false by simpa using List.all_eq_true.1 hall t hm)

theorem card : Rows.PageBoundsCardSaid :=
  Claim7.holds_tied_plain_at .later [] _ _ _ _ said (fun _ h => by cases h) (by kernel_rfl) (fun _ h => by cases h) pageBounds_row_tie rfl ⟨rfl, rfl⟩ (by kernel_rfl) rfl plain (by kernel_rfl)

end Go.Proofs.YtaliepcbkfnlhaaDoor.pageBounds
