/-
  MetaTorn: a meta is synced, the next one is written and the power fails: whichever sectors of it stay, one of both is chosen, whole. Conditions: the variables that the row lists are laid as its card says.
-/
import Derived.Test.YtccajgdfjinjbaaDoorT12
import Derived.Test.YtccajgdfjinjbaaDoorFrameL
namespace Go.Proofs.YtccajgdfjinjbaaDoor.metaTorn
open Go.RowKit Go.Lib Go.ChangeShapes Go.WideShapes Go.ChangeAt

theorem fits_int {t r f p : Int} (h : MetaOK t r f p) : IsInt t ∧ IsInt r ∧ IsInt f ∧ IsInt p := by
  obtain ⟨⟨a0, a1⟩, ⟨b0, b1⟩, ⟨c0, c1⟩, ⟨d0, d1⟩⟩ := h
  unfold IsInt
  omega
/-- Both metas in memory, behind a while. -/
structure Pair (w : World) (t r f p u r' f' p' : Int) (W : World) : Prop where
  fst : Has W w.heap.size 23 #[.int .i64 t, .int .i64 r, .int .i64 f, .int .i64 p]
  snd : Has W (w.heap.size + 1) 23 #[.int .i64 u, .int .i64 r', .int .i64 f', .int .i64 p']
  bel : Below w.heap.size w W
section
variable {w W W' : World} {t r f p u r' f' p' : Int}
theorem Pair.start (w : World) (t r f p u r' f' p' : Int) : Pair w t r f p u r' f' p' ((w.alloc (.cells #[.int .i64 t, .int .i64 r, .int .i64 f, .int .i64 p] 23)).alloc (.cells #[.int .i64 u, .int .i64 r', .int .i64 f', .int .i64 p'] 23)) :=
  ⟨(Has.made w _ _).alloc _, by simpa using Has.made (w.alloc (.cells #[.int .i64 t, .int .i64 r, .int .i64 f, .int .i64 p] 23)) 23 #[.int .i64 u, .int .i64 r', .int .i64 f', .int .i64 p'], ((Below.refl _ _).alloc (Nat.le_refl _) _).alloc (by simp) _⟩
theorem Pair.size (h : Pair w t r f p u r' f' p' W) : w.heap.size + 2 ≤ W.heap.size := by have := h.snd.inside; omega
theorem Pair.below (h : Pair w t r f p u r' f' p' W) (hb : Below W.heap.size W W') : Pair w t r f p u r' f' p' W' := by
  have := h.size
  exact ⟨h.fst.below hb h.fst.inside, h.snd.below hb h.snd.inside, h.bel.trans (hb.mono (by omega))⟩
theorem Pair.dev {w0 : World} {s : DevS} {L : List (Nat × TypeId × Array Value)} {q : Nat} (h : Pair w t r f p u r' f' p' w0) (hd : DevRun w0.heap.size w0 q s L W) : Pair w t r f p u r' f' p' W := h.below hd.out
end

set_option maxRecDepth 100000 in
set_option maxHeartbeats 4000000 in
theorem walk_whole (w : World) (t r f p u r' f' p' keep x0 x1 x2 x3 K1 K2 : Int) (ok : MetaOK t r f p) (ok' : MetaOK (t + 1) r' f' p') (htop : t ≤ 1099511627776) (hp : p' < 16777216) (s1 s2 s3 s4 s5 : DevS)
      (c1 : ∀ B q w L W, DevRun B w q (longer (newS 2) 2) L W → Calls Tryd.prog 19 #[.pointer (some ⟨q, 0, none⟩), metaV t r f p] W fun e w' => e = .returned (.int .i64 0) ∧ DevRun B w q s1 L w')
      (c2 : ∀ B q w L W, DevRun B w q s1 L W → Calls Tryd.prog 22 #[.pointer (some ⟨q, 0, none⟩)] W fun e w' => e = .returned (.int .i64 0) ∧ DevRun B w q s2 L w')
      (c3 : ∀ B q w L W, DevRun B w q s2 L W → Calls Tryd.prog 19 #[.pointer (some ⟨q, 0, none⟩), metaV (t + 1) r' f' p'] W fun e w' => e = .returned (.int .i64 0) ∧ DevRun B w q s3 L w')
      (c4 : ∀ B q w L W, DevRun B w q s3 L W → Calls Tryd.prog 23 #[.pointer (some ⟨q, 0, none⟩), .slice (some ⟨W.heap.size, 0, none⟩) 1 1] (W.alloc (.cells #[.int .i64 keep] 3)) fun e w' => e = .returned (.tuple #[]) ∧ DevRun B w q s4 L w')
      (c5 : ∀ B q w L W, DevRun B w q s4 L W → Calls Tryd.prog 24 #[.pointer (some ⟨q, 0, none⟩)] W fun e w' => e = .returned (.tuple #[]) ∧ DevRun B w q s5 L w')
      (c6 : ∀ B q w L W, DevRun B w q s5 L W → Calls Tryd.prog 20 #[.pointer (some ⟨q, 0, none⟩)] W fun e w' => e = .returned (.tuple #[metaV x0 x1 x2 x3, .int .i64 0]) ∧ DevRun B w q s5 L w')
      (k1 : bits .and .i64 keep 129 = K1) (k2 : bits .and .i64 keep 255 = K2)
      (hz : x0 = t + 1 ∧ x1 = r' ∧ x2 = f' ∧ x3 = p' ∧ ((K1 != 129) = true ∨ (K1 != 129) = false) ∧ (K2 != 0) = true ∨ x0 = t ∧ x1 = r ∧ x2 = f ∧ x3 = p ∧ (K1 != 129) = true ∧ ((K2 != 0) = true ∨ (K2 != 0) = false)) :
    Calls Tryd.prog 4 #[metaV t r f p, metaV u r' f' p', .int .i64 keep] w fun e w' => e = .returned (.bool true) ∧ Below w.heap.size w w' := by
  have HA := Lib.hid alive_walk
  obtain ⟨i1, i2, i3, i4⟩ := fits_int ok
  obtain ⟨j1, j2, j3, j4⟩ := fits_int ok'
  have hp1 := fun w => mput_any t r f p w i1 i2 i3 i4
  have hp2 := fun w => mput_any (t + 1) r' f' p' w j1 j2 j3 j4
  rw [putB, putE, if_pos ok, if_pos ok] at hp1
  rw [putB, putE, if_pos ok', if_pos ok'] at hp2
  have h0 : 0 ≤ t := ok.1.1
  obtain ⟨v, hv⟩ : ∃ v, t + 1 = v := ⟨_, rfl⟩
  have e1 : IntKind.i64.wrap (t + 1) = v := by rw [IntKind.wrap_i64]; omega
  have hne : (v == t) = false := by simp; omega
  have hne2 : (t == v) = false := by simp; omega
  rw [hv] at hp2 c3 hz
  have HP1 := Lib.hid hp1
  have HP2 := Lib.hid hp2
  have C1 := Lib.hid c1
  have C2 := Lib.hid c2
  have C3 := Lib.hid c3
  have C4 := Lib.hid c4
  have C5 := Lib.hid c5
  have C6 := Lib.hid c6
  clear hp1 hp2 c1 c2 c3 c4 c5 c6 ok ok' i1 i2 i3 i4 j1 j2 j3 j4 hv
  unfold metaV at *
  go_enter Tryd.func4, Tryd.ntmps4
  go_upto_region 4 with fail
  change Code.wp _ _ _ _ ((w.alloc (.cells #[.int .i64 t, .int .i64 r, .int .i64 f, .int .i64 p] 23)).alloc (.cells #[.int .i64 v, .int .i64 r', .int .i64 f', .int .i64 p'] 23))
  have hP := Pair.start w t r f p v r' f' p'
  generalize (w.alloc (.cells #[.int .i64 t, .int .i64 r, .int .i64 f, .int .i64 p] 23)).alloc (.cells #[.int .i64 v, .int .i64 r', .int .i64 f', .int .i64 p'] 23) = W0 at *
  obtain ⟨⟨a0, a1, a2, a3⟩, -⟩ := hP.fst.four
  have HW0 := Lib.hid hP
  clear hP
  go_wp2_with fail
  refine (HP1.out _).mono ?_
  rintro e w1 ⟨rfl, hb⟩
  have hP := HW0.out.below hb
  obtain ⟨⟨b0, b1, b2, b3⟩, -⟩ := hP.snd.four
  have HW1 := Lib.hid hP
  clear hP HW0 hb a0 a1 a2 a3 HP1
  go_wp2_with fail
  refine (HP2.out _).mono ?_
  rintro e w2 ⟨rfl, hb⟩
  have HW2 := Lib.hid (HW1.out.below hb)
  clear HW1 hb b0 b1 b2 b3 HP2
  go_wp2_with fail
  refine (new_run 2 w2 (by omega) (by omega)).mono ?_
  rintro e w3 ⟨rfl, hd⟩
  have H3 := Lib.hid hd
  clear hd
  go_wp2_with fail
  refine (grow2_run _ _ _ _ _ H3.out).mono ?_
  rintro e w4 ⟨rfl, hd⟩
  have H4 := Lib.hid hd
  obtain ⟨⟨a0, a1, a2, a3⟩, -⟩ := (HW2.out.dev hd).fst.four
  clear hd H3
  go_wp2_with fail
  refine (C1.out _ _ _ _ _ H4.out).mono ?_
  rintro e w5 ⟨rfl, hd⟩
  have H5 := Lib.hid hd
  clear hd H4 a0 a1 a2 a3
  go_wp2_with fail
  refine (C2.out _ _ _ _ _ H5.out).mono ?_
  rintro e w6 ⟨rfl, hd⟩
  obtain ⟨⟨b0, b1, b2, b3⟩, -⟩ := (HW2.out.dev hd).snd.four
  have H6 := Lib.hid hd
  clear hd H5
  go_wp2_with fail
  refine (C3.out _ _ _ _ _ H6.out).mono ?_
  rintro e w7 ⟨rfl, hd⟩
  have H7 := Lib.hid hd
  clear hd H6 b0 b1 b2 b3
  go_wp2_with fail
  refine (C4.out _ _ _ _ _ H7.out).mono ?_
  rintro e w8 ⟨rfl, hd⟩
  have H8 := Lib.hid hd
  clear hd H7
  go_wp2_with fail
  refine (C5.out _ _ _ _ _ H8.out).mono ?_
  rintro e w9 ⟨rfl, hd⟩
  have H9 := Lib.hid hd
  clear hd H8
  go_wp2_with fail
  refine (C6.out _ _ _ _ _ H9.out).mono ?_
  rintro e wa ⟨rfl, hd⟩
  have HB := Lib.hid (hd.made 23 #[.int .i64 x0, .int .i64 x1, .int .i64 x2, .int .i64 x3])
  clear hd H9
  go_wp2_with fail
  refine (HA.out _).mono ?_
  rintro e wb ⟨rfl, hb⟩
  have hd := HB.out.below hb
  obtain ⟨⟨q0, q1, q2, q3⟩, -⟩ := (hd.side (.head _)).four
  have hP := HW2.out.dev hd
  obtain ⟨⟨a0, a1, a2, a3⟩, -⟩ := hP.fst.four
  obtain ⟨⟨b0, b1, b2, b3⟩, -⟩ := hP.snd.four
  have HE := Lib.hid hP.bel
  clear hb hd hP HB HW2 C1 C2 C3 C4 C5 C6
  rcases hz with ⟨rfl, rfl, rfl, rfl, h129 | h129, h255⟩ | ⟨rfl, rfl, rfl, rfl, h129, h255 | h255⟩
  all_goals
    go_wp2
    go_ret
    exact ⟨rfl, HE.out⟩

set_option maxRecDepth 100000 in
set_option maxHeartbeats 4000000 in
theorem walk_out (w : World) (t r f p u r' f' p' keep : Int) (h : t < 0 ∨ 0 ≤ t ∧ 1099511627776 < t ∨ 0 ≤ t ∧ t ≤ 1099511627776 ∧ 16777216 ≤ p') :
    Calls Tryd.prog 4 #[metaV t r f p, metaV u r' f' p', .int .i64 keep] w fun e w' => e = .returned (.bool true) ∧ Below w.heap.size w w' := by
  have hP := Lib.hid (Pair.start w t r f p u r' f' p')
  unfold metaV
  rcases h with a | ⟨a, b⟩ | ⟨a, b, c⟩
  all_goals
    go_enter Tryd.func4, Tryd.ntmps4
    go_wp2_with (go_at_call 6; refine (alive_walk _).mono ?_; rintro e w2 ⟨rfl, hb2⟩)
    go_ret
    exact ⟨rfl, (hP.out.below hb2).bel⟩

set_option maxRecDepth 100000 in
set_option maxHeartbeats 4000000 in
/-- One of both has no page. -/
theorem walk_bad (w : World) (t r f p u r' f' p' keep : Int) (hi : IsInt r ∧ IsInt f ∧ IsInt p) (hj : IsInt r' ∧ IsInt f' ∧ IsInt p') (h0 : 0 ≤ t) (htop : t ≤ 1099511627776) (hp : p' < 16777216) (hb : ¬ MetaOK t r f p ∨ MetaOK t r f p ∧ ¬ MetaOK (t + 1) r' f' p') :
    Calls Tryd.prog 4 #[metaV t r f p, metaV u r' f' p', .int .i64 keep] w fun e w' => e = .returned (.bool true) ∧ Below w.heap.size w w' := by
  have HA := Lib.hid alive_walk
  have hp1 := fun w => mput_any t r f p w (by unfold IsInt; omega) hi.1 hi.2.1 hi.2.2
  have hp2 := fun w => mput_any (t + 1) r' f' p' w (by unfold IsInt; omega) hj.1 hj.2.1 hj.2.2
  obtain ⟨X, E, Y, G, hp1, hp2, hE⟩ : ∃ (X : ByteArray) (E : Int) (Y : ByteArray) (G : Int), (∀ w, Calls Tryd.prog 7 #[metaV t r f p] w fun e w' => e = .returned (.tuple #[.string X, .int .i64 E]) ∧ Below w.heap.size w w') ∧
      (∀ w, Calls Tryd.prog 7 #[metaV (t + 1) r' f' p'] w fun e w' => e = .returned (.tuple #[.string Y, .int .i64 G]) ∧ Below w.heap.size w w') ∧ (E = 1 ∨ E = 0 ∧ G = 1) := by
    refine ⟨_, _, _, _, hp1, hp2, ?_⟩
    rcases hb with h | ⟨h, h2⟩
    · exact .inl (by rw [putE, if_neg h])
    · exact .inr ⟨by rw [putE, if_pos h], by rw [putE, if_neg h2]⟩
  obtain ⟨v, hv⟩ : ∃ v, t + 1 = v := ⟨_, rfl⟩
  have e1 : IntKind.i64.wrap (t + 1) = v := by rw [IntKind.wrap_i64]; omega
  rw [hv] at hp2
  have HP1 := Lib.hid hp1
  have HP2 := Lib.hid hp2
  clear hp1 hp2 hb hi hj hv
  unfold metaV at *
  rcases hE with rfl | ⟨rfl, rfl⟩
  all_goals
    go_enter Tryd.func4, Tryd.ntmps4
    go_upto_region 4 with fail
    change Code.wp _ _ _ _ ((w.alloc (.cells #[.int .i64 t, .int .i64 r, .int .i64 f, .int .i64 p] 23)).alloc (.cells #[.int .i64 v, .int .i64 r', .int .i64 f', .int .i64 p'] 23))
    have hP := Pair.start w t r f p v r' f' p'
    generalize (w.alloc (.cells #[.int .i64 t, .int .i64 r, .int .i64 f, .int .i64 p] 23)).alloc (.cells #[.int .i64 v, .int .i64 r', .int .i64 f', .int .i64 p'] 23) = W0 at *
    obtain ⟨⟨a0, a1, a2, a3⟩, -⟩ := hP.fst.four
    have HW0 := Lib.hid hP
    clear hP
    go_wp2_with fail
    refine (HP1.out _).mono ?_
    rintro e w1 ⟨rfl, hb⟩
    have hP := HW0.out.below hb
    obtain ⟨⟨b0, b1, b2, b3⟩, -⟩ := hP.snd.four
    have HW1 := Lib.hid hP
    clear hP HW0 hb a0 a1 a2 a3 HP1
    go_wp2_with fail
    refine (HP2.out _).mono ?_
    rintro e w2 ⟨rfl, hb⟩
    have HW2 := Lib.hid (HW1.out.below hb)
    clear HW1 hb b0 b1 b2 b3 HP2
    go_wp2_with (go_at_call 6; refine (HA.out _).mono ?_; rintro e w3 ⟨rfl, hb2⟩)
    go_ret
    exact ⟨rfl, (HW2.out.below hb2).bel⟩

theorem walk (w : World) (t r f p : Int) (_i0 : IsInt t) (i1 : IsInt r) (i2 : IsInt f) (i3 : IsInt p) (u r' f' p' : Int) (_j0 : IsInt u) (j1 : IsInt r') (j2 : IsInt f') (j3 : IsInt p') (keep : Int) (hk : IsInt keep) :
    Calls Tryd.prog 4 #[metaV t r f p, metaV u r' f' p', .int .i64 keep] w fun e w' => e = .returned (.bool true) ∧ Below w.heap.size w w' := by
  by_cases hin : 0 ≤ t ∧ t ≤ 1099511627776 ∧ p' < 16777216
  · obtain ⟨h0, h1, hp⟩ := hin
    by_cases ok : MetaOK t r f p
    · by_cases ok' : MetaOK (t + 1) r' f' p'
      · obtain ⟨s1, s2, s3, s4, s5, Z, c1, c2, c3, c4, c5, c6, hz⟩ := chain ok ok' rfl hp hk
        rcases hz with ⟨rfl, hz⟩ | ⟨rfl, hz⟩
        · refine walk_whole w t r f p u r' f' p' keep _ _ _ _ _ _ ok ok' h1 hp s1 s2 s3 s4 s5 c1 c2 c3 c4 c5 c6 rfl rfl (.inl ⟨rfl, rfl, rfl, rfl, ?_, ?_⟩)
          · cases (bits .and .i64 keep 129 != 129) <;> simp
          · simpa using kept_some hz
        · refine walk_whole w t r f p u r' f' p' keep _ _ _ _ _ _ ok ok' h1 hp s1 s2 s3 s4 s5 c1 c2 c3 c4 c5 c6 rfl rfl (.inr ⟨rfl, rfl, rfl, rfl, ?_, ?_⟩)
          · simpa using fun h => hz (kept_both h)
          · cases (bits .and .i64 keep 255 != 0) <;> simp
      · exact walk_bad w t r f p u r' f' p' keep ⟨i1, i2, i3⟩ ⟨j1, j2, j3⟩ h0 h1 hp (.inr ⟨ok, ok'⟩)
    · exact walk_bad w t r f p u r' f' p' keep ⟨i1, i2, i3⟩ ⟨j1, j2, j3⟩ h0 h1 hp (.inl ok)
  · exact walk_out w t r f p u r' f' p' keep (by omega)

set_option maxRecDepth 100000 in
theorem contract (H : Type) (enc : TypeId × Value → H) (W : World) (base : Nat) (args : Array Value) (ds gs : List (DataW H)) (before : List MemPlace)
    (hval : ∀ (j : Nat) t v, Tryd.f4.params[j]? = some t → args[j]? = some v → Value.okWide Tryd.prog W .any base t v)
    (hW : DataW.Whole enc Tryd.prog Tryd.f4.params.toList Rows.metaTornSpec.vars false W args.toList ds gs before) (hL : laidMetH Tryd.prog Rows.metaTornRow.laid W) :
    Calls Tryd.prog 4 args W fun e W' => ∃ v, e = .returned v ∧ Rows.metaTornSpec.post enc Tryd.prog Tryd.f4 false true false false W args v W' := by
  have hW' := hW
  obtain ⟨p, q, hA0, hV, rfl, hfz, hnd⟩ := hW
  have hA : DataW.TrodAll enc Tryd.prog W 0 (fun _ => true) true Tryd.f4.params.toList args.toList ds p := hA0
  rw [Tryd.params4] at hA hval
  obtain ⟨v0, vs0, d0, ds0, p0, q0, hargs, rfl, rfl, h0, r00⟩ := trodAll_cons hA
  obtain ⟨v1, vs1, d1, ds1, p1, q1, rfl, rfl, rfl, h1, r01⟩ := trodAll_cons r00
  obtain ⟨v2, vs2, d2, ds2, p2, q2, rfl, rfl, rfl, h2, r02⟩ := trodAll_cons r01
  obtain ⟨rfl, rfl, rfl⟩ := trodAll_nil r02
  obtain rfl : args = #[v0, v1, v2] := by cases args; simp_all
  obtain ⟨rfl, rfl⟩ := trodVars_none hV
  obtain ⟨ka0, kb0, kc0, kd0, rfl, rfl, rfl, wa0, wb0, wc0, wd0⟩ := open_meta (hval 0 23 v0 rfl rfl) h0
  obtain ⟨ka1, kb1, kc1, kd1, rfl, rfl, rfl, wa1, wb1, wc1, wd1⟩ := open_meta (hval 1 23 v1 rfl rfl) h1
  obtain ⟨n2, rfl, rfl, rfl, w2⟩ := open_int Tryd.underlying3 (hval 2 3 v2 rfl rfl) h2
  clear hA0
  refine (walk W ka0 kb0 kc0 kd0 (isInt_of_wf wa0) (isInt_of_wf wb0) (isInt_of_wf wc0) (isInt_of_wf wd0) ka1 kb1 kc1 kd1 (isInt_of_wf wa1) (isInt_of_wf wb1) (isInt_of_wf wc1) (isInt_of_wf wd1) n2 (isInt_of_wf w2)).mono fun e W' ⟨he, hb⟩ => ?_
  subst he
  exact ⟨_, rfl, law_post hW' rfl rfl (by kernel_rfl) (by kernel_rfl) hb⟩

theorem reads (os : Os) {H : Type} (enc : TypeId × Value → H) : ∃ places, DataW.whole enc Tryd.prog ((laidWorld os).forCall (fun _ _ => 0) ⟨#[], #[.agg #[.int .i64 0, .int .i64 0, .int .i64 0, .int .i64 0], .agg #[.int .i64 0, .int .i64 0, .int .i64 0, .int .i64 0], .int .i64 0], []⟩).memory Tryd.f4.params.toList Rows.metaTornSpec.vars false (#[.agg #[.int .i64 0, .int .i64 0, .int .i64 0, .int .i64 0], .agg #[.int .i64 0, .int .i64 0, .int .i64 0, .int .i64 0], .int .i64 0] : Array Value).toList 8 = some ([.agg [.lit (.int .i64 0), .lit (.int .i64 0), .lit (.int .i64 0), .lit (.int .i64 0)], .agg [.lit (.int .i64 0), .lit (.int .i64 0), .lit (.int .i64 0), .lit (.int .i64 0)], .lit (.int .i64 0)], [], places) :=
  ⟨[], by kernel_rfl⟩

set_option maxRecDepth 100000 in
theorem lifted (os : Os) (started : os.Started) (H : Type) (enc : TypeId × Value → H) (F : Stop.Interp) :
    ReturnsInHanded {} Tryd.checked os 4 .any ((OpenSpec.ofChange Rows.metaTornSpec).preRow enc Tryd.prog Tryd.f4 Rows.metaTornRow.domain false Rows.metaTornRow.laid) (((OpenSpec.ofChange Rows.metaTornSpec).at F).post enc Tryd.prog Tryd.f4 false true false false) := by
  obtain ⟨places, hx⟩ := reads os enc
  refine returnsInHanded_of_row (C := Tryd.checked) (s := OpenSpec.ofChange Rows.metaTornSpec) own started (by kernel_rfl) Tryd.func4
    (witness_row_at (enc := enc) (C := Tryd.checked) false (laidWorld os) #[.agg #[.int .i64 0, .int .i64 0, .int .i64 0, .int .i64 0], .agg #[.int .i64 0, .int .i64 0, .int .i64 0, .int .i64 0], .int .i64 0] (laid_os os) (by kernel_rfl) (by kernel_rfl) (by kernel_rfl)
      (OpenSpec.preRow_of_cond 8 hx (by kernel_rfl) (fun k hk => by cases hk) (by kernel_rfl) (laid_met os _))) ?_
  intro W base args ds gs before hval hW _ _ _ hL _ _
  exact contract H enc W base args ds gs before hval hW hL

set_option maxRecDepth 100000 in
theorem said : Rows.MetaTornSaid :=
  OpenClaim.holds_of_cond 4 Tryd.f4 rfl rfl rfl rfl rfl rfl rfl ⟨rfl, rfl, rfl, rfl, rfl⟩ rfl rfl rfl rfl rfl (by kernel_rfl) Tryd.func4 (by kernel_rfl)
    (of_decide_eq_true (by kernel_rfl)) (by unfold Func.isWrapper; first | (rw [if_pos (by decide +kernel)]; kernel_rfl) | (rw [if_neg (by decide +kernel)]; exact ⟨rfl, rfl⟩))
    (fun os started H enc _ F => by rw [OpenClaim.pre_eq_preRow]; exact lifted os started H enc F)

set_option maxRecDepth 100000 in
theorem plain (f : FuncId) (fn : Func) (hf : Tryd.pinned.checked.prog.funcNamed "arboretum/arboretumlaw5.MetaTorn" = some f) (hfn : Tryd.pinned.checked.prog.funcs[f]? = some fn) :
    false = Tryd.pinned.checked.prog.looks [] ∧ ∀ (j : Nat) t, fn.params[j]? = some t → Tryd.pinned.checked.prog.wantsStandIn t = false := by
  obtain rfl : f = 4 := Option.some.inj ((show Tryd.prog.funcNamed "arboretum/arboretumlaw5.MetaTorn" = some 4 by kernel_rfl).symm.trans hf) |>.symm
  obtain rfl : fn = Tryd.f4 := (Option.some.inj (Tryd.func4.symm.trans hfn)).symm
  refine ⟨by kernel_rfl, fun j t ht => ?_⟩
  rw [Tryd.params4] at ht
  have hm : t ∈ [23, 23, 3] := by simpa using Array.mem_of_getElem? ht
  have hall : ([23, 23, 3].all fun u => !Tryd.prog.wantsStandIn u) = true := by kernel_rfl
  exact (show Tryd.prog.wantsStandIn t = false by simpa using List.all_eq_true.1 hall t hm)

theorem card : Rows.MetaTornCardSaid :=
  Claim7.holds_tied_plain_at .later [] _ _ _ _ said (fun _ h => by cases h) (by kernel_rfl) (fun _ h => by cases h) metaTorn_row_tie rfl ⟨rfl, rfl⟩ (by kernel_rfl) rfl plain (by kernel_rfl)

end Go.Proofs.YtccajgdfjinjbaaDoor.metaTorn
