/-
  Walks over package meta: Put.
-/
import Derived.Test.YthcpjpebahiikaaDoorMg14
import Derived.Test.YthcpjpebahiikaaDoorMg15
namespace Go.Proofs.YthcpjpebahiikaaDoor
open Go.RowKit Go.Lib

/-- The numbers of a meta, one behind the other. -/
theorem arr4 (a b c d : Int) : (∀ w : World, (Instr.index 46 (.agg #[.int .i64 a, .int .i64 b, .int .i64 c, .int .i64 d]) (.int .i64 0)).run Tryd.prog w = .ok (.int .i64 a) w) ∧
    (∀ w : World, (Instr.index 46 (.agg #[.int .i64 a, .int .i64 b, .int .i64 c, .int .i64 d]) (.int .i64 1)).run Tryd.prog w = .ok (.int .i64 b) w) ∧
    (∀ w : World, (Instr.index 46 (.agg #[.int .i64 a, .int .i64 b, .int .i64 c, .int .i64 d]) (.int .i64 2)).run Tryd.prog w = .ok (.int .i64 c) w) ∧
    (∀ w : World, (Instr.index 46 (.agg #[.int .i64 a, .int .i64 b, .int .i64 c, .int .i64 d]) (.int .i64 3)).run Tryd.prog w = .ok (.int .i64 d) w) :=
  ⟨fun _ => by kernel_rfl, fun _ => by kernel_rfl, fun _ => by kernel_rfl, fun _ => by kernel_rfl⟩
/-- What is called with a number of a meta. -/
def FixTo (t : Int) (X : ByteArray) (E : Int) : Prop := ∀ w : World, Calls Tryd.prog 21 #[.int .i64 t, .int .i64 6] w fun e w' => e = .returned (.tuple #[.string X, .int .i64 E]) ∧ Below w.heap.size w w'

set_option maxRecDepth 100000 in
set_option maxHeartbeats 4000000 in
theorem put_first (t r f p E : Int) (X : ByteArray) (w : World) (h0 : FixTo t X E) (hE : (E != 0) = true) :
    Calls Tryd.prog 5 #[metaV t r f p] w fun e w' => e = .returned (.tuple #[.string ByteArray.empty, .int .i64 E]) ∧ Below w.heap.size w w' := by
  have H0 := Lib.hid h0
  clear h0
  obtain ⟨i0, i1, i2, i3⟩ := arr4 t r f p
  unfold metaV
  go_enter Tryd.func5, Tryd.ntmps5
  go_wp2_with fail
  refine wp_loop_rounds 5 ?_
  rw [rounds_succ]
  go_wp2_with fail
  refine (H0.out _).mono ?_
  rintro e w1 ⟨rfl, hb1⟩
  go_wp2_with fail
  go_ret2
  exact ⟨rfl, ((Below.refl _ _).alloc (Nat.le_refl _) _).trans (hb1.mono (by simp))⟩

set_option maxRecDepth 100000 in
set_option maxHeartbeats 4000000 in
theorem put_second (t r f p E : Int) (X0 X : ByteArray) (w : World) (z0 : X0.size = 6) (h0 : FixTo t X0 0) (h1 : FixTo r X E) (hE : (E != 0) = true) :
    Calls Tryd.prog 5 #[metaV t r f p] w fun e w' => e = .returned (.tuple #[.string ByteArray.empty, .int .i64 E]) ∧ Below w.heap.size w w' := by
  have H0 := Lib.hid h0
  have H1 := Lib.hid h1
  clear h0 h1
  have m0 : ¬ 9223372036854775807 < X0.size := by omega
  obtain ⟨i0, i1, i2, i3⟩ := arr4 t r f p
  unfold metaV
  go_enter Tryd.func5, Tryd.ntmps5
  go_wp2_with fail
  refine wp_loop_rounds 5 ?_
  rw [rounds_succ]
  go_wp2_with fail
  refine (H0.out _).mono ?_
  rintro e w1 ⟨rfl, hb1⟩
  go_wp2_with fail
  rw [rounds_succ]
  go_wp2_with fail
  refine (H1.out _).mono ?_
  rintro e w2 ⟨rfl, hb2⟩
  go_wp2_with fail
  go_ret2
  have hs1 := hb1.size
  simp at hs1
  exact ⟨rfl, (((Below.refl _ _).alloc (Nat.le_refl _) _).trans (hb1.mono (by simp))).trans (hb2.mono (by omega))⟩

set_option maxRecDepth 100000 in
set_option maxHeartbeats 4000000 in
theorem put_third (t r f p E : Int) (X0 X1 X : ByteArray) (w : World) (z0 : X0.size = 6) (h0 : FixTo t X0 0) (z1 : X1.size = 6) (h1 : FixTo r X1 0) (h2 : FixTo f X E) (hE : (E != 0) = true) :
    Calls Tryd.prog 5 #[metaV t r f p] w fun e w' => e = .returned (.tuple #[.string ByteArray.empty, .int .i64 E]) ∧ Below w.heap.size w w' := by
  have H0 := Lib.hid h0
  have H1 := Lib.hid h1
  have H2 := Lib.hid h2
  clear h0 h1 h2
  have m0 : ¬ 9223372036854775807 < X0.size := by omega
  have m1 : ¬ 9223372036854775807 < X0.size + X1.size := by omega
  obtain ⟨i0, i1, i2, i3⟩ := arr4 t r f p
  unfold metaV
  go_enter Tryd.func5, Tryd.ntmps5
  go_wp2_with fail
  refine wp_loop_rounds 5 ?_
  rw [rounds_succ]
  go_wp2_with fail
  refine (H0.out _).mono ?_
  rintro e w1 ⟨rfl, hb1⟩
  go_wp2_with fail
  rw [rounds_succ]
  go_wp2_with fail
  refine (H1.out _).mono ?_
  rintro e w2 ⟨rfl, hb2⟩
  go_wp2_with fail
  rw [rounds_succ]
  go_wp2_with fail
  refine (H2.out _).mono ?_
  rintro e w3 ⟨rfl, hb3⟩
  go_wp2_with fail
  go_ret2
  have hs1 := hb1.size
  have hs2 := hb2.size
  simp at hs1
  exact ⟨rfl, ((((Below.refl _ _).alloc (Nat.le_refl _) _).trans (hb1.mono (by simp))).trans (hb2.mono (by omega))).trans (hb3.mono (by omega))⟩

set_option maxRecDepth 100000 in
set_option maxHeartbeats 4000000 in
theorem put_fourth (t r f p E : Int) (X0 X1 X2 X : ByteArray) (w : World) (z0 : X0.size = 6) (h0 : FixTo t X0 0) (z1 : X1.size = 6) (h1 : FixTo r X1 0) (z2 : X2.size = 6) (h2 : FixTo f X2 0) (h3 : FixTo p X E) (hE : (E != 0) = true) :
    Calls Tryd.prog 5 #[metaV t r f p] w fun e w' => e = .returned (.tuple #[.string ByteArray.empty, .int .i64 E]) ∧ Below w.heap.size w w' := by
  have H0 := Lib.hid h0
  have H1 := Lib.hid h1
  have H2 := Lib.hid h2
  have H3 := Lib.hid h3
  clear h0 h1 h2 h3
  have m0 : ¬ 9223372036854775807 < X0.size := by omega
  have m1 : ¬ 9223372036854775807 < X0.size + X1.size := by omega
  have m2 : ¬ 9223372036854775807 < X0.size + X1.size + X2.size := by omega
  obtain ⟨i0, i1, i2, i3⟩ := arr4 t r f p
  unfold metaV
  go_enter Tryd.func5, Tryd.ntmps5
  go_wp2_with fail
  refine wp_loop_rounds 5 ?_
  rw [rounds_succ]
  go_wp2_with fail
  refine (H0.out _).mono ?_
  rintro e w1 ⟨rfl, hb1⟩
  go_wp2_with fail
  rw [rounds_succ]
  go_wp2_with fail
  refine (H1.out _).mono ?_
  rintro e w2 ⟨rfl, hb2⟩
  go_wp2_with fail
  rw [rounds_succ]
  go_wp2_with fail
  refine (H2.out _).mono ?_
  rintro e w3 ⟨rfl, hb3⟩
  go_wp2_with fail
  rw [rounds_succ]
  go_wp2_with fail
  refine (H3.out _).mono ?_
  rintro e w4 ⟨rfl, hb4⟩
  go_wp2_with fail
  go_ret2
  have hs1 := hb1.size
  have hs2 := hb2.size
  have hs3 := hb3.size
  simp at hs1
  exact ⟨rfl, (((((Below.refl _ _).alloc (Nat.le_refl _) _).trans (hb1.mono (by simp))).trans (hb2.mono (by omega))).trans (hb3.mono (by omega))).trans (hb4.mono (by omega))⟩

set_option maxRecDepth 100000 in
set_option maxHeartbeats 4000000 in
theorem put_last (t r f p E : Int) (X0 X1 X2 X3 X B : ByteArray) (w : World) (z0 : X0.size = 6) (h0 : FixTo t X0 0) (z1 : X1.size = 6) (h1 : FixTo r X1 0) (z2 : X2.size = 6) (h2 : FixTo f X2 0) (z3 : X3.size = 6) (h3 : FixTo p X3 0)
    (hB : (⟨#[]⟩ : ByteArray) ++ X0 ++ X1 ++ X2 ++ X3 = B)
    (hS : ∀ w : World, Calls Tryd.prog 22 #[.int .i64 (t % 2), .agg #[.int .i64 1, .int .i64 0, .string B]] w fun e w' => e = .returned (.tuple #[.string X, .int .i64 E]) ∧ Below w.heap.size w w') :
    Calls Tryd.prog 5 #[metaV t r f p] w fun e w' => e = .returned (.tuple #[.string X, .int .i64 E]) ∧ Below w.heap.size w w' := by
  have H0 := Lib.hid h0
  have H1 := Lib.hid h1
  have H2 := Lib.hid h2
  have H3 := Lib.hid h3
  have HB := Lib.hid hB
  have HS := Lib.hid hS
  have hH : Has (w.alloc (.cells #[.int .i64 t, .int .i64 r, .int .i64 f, .int .i64 p] 23)) w.heap.size 23 #[.int .i64 t, .int .i64 r, .int .i64 f, .int .i64 p] := Has.made w _ _
  clear h0 h1 h2 h3 hS hB
  have m0 : ¬ 9223372036854775807 < X0.size := by omega
  have m1 : ¬ 9223372036854775807 < X0.size + X1.size := by omega
  have m2 : ¬ 9223372036854775807 < X0.size + X1.size + X2.size := by omega
  have m3 : ¬ 9223372036854775807 < X0.size + X1.size + X2.size + X3.size := by omega
  obtain ⟨i0, i1, i2, i3⟩ := arr4 t r f p
  unfold metaV
  go_enter Tryd.func5, Tryd.ntmps5
  go_wp2_with fail
  refine wp_loop_rounds 5 ?_
  rw [rounds_succ]
  go_wp2_with fail
  refine (H0.out _).mono ?_
  rintro e w1 ⟨rfl, hb1⟩
  go_wp2_with fail
  rw [rounds_succ]
  go_wp2_with fail
  refine (H1.out _).mono ?_
  rintro e w2 ⟨rfl, hb2⟩
  go_wp2_with fail
  rw [rounds_succ]
  go_wp2_with fail
  refine (H2.out _).mono ?_
  rintro e w3 ⟨rfl, hb3⟩
  go_wp2_with fail
  rw [rounds_succ]
  go_wp2_with fail
  refine (H3.out _).mono ?_
  rintro e w4 ⟨rfl, hb4⟩
  have hs1 := hb1.size
  have hs2 := hb2.size
  have hs3 := hb3.size
  have hs4 := hb4.size
  simp at hs1
  have hH4 := (((hH.below hb1 hH.inside).below hb2 (by omega)).below hb3 (by omega)).below hb4 (by omega)
  have HW := Lib.hid (((((((Below.refl w.heap.size w).alloc (Nat.le_refl _) (.cells #[.int .i64 t, .int .i64 r, .int .i64 f, .int .i64 p] 23)).trans (hb1.mono (by simp))).trans (hb2.mono (by omega))).trans (hb3.mono (by omega))).trans (hb4.mono (by omega))))
  have c0 : w4.cell? ⟨w.heap.size, 0, none⟩ = some (.int .i64 t) := hH4.cell 0
  clear hH hH4 hb1 hb2 hb3 hb4
  go_wp2_with fail
  rw [rounds_succ]
  go_wp2_with (go_at_call 7; refine (place_any _ _).mono ?_; rintro e w5 ⟨rfl, rfl⟩)
  rw [HB.out]
  refine (HS.out _).mono ?_
  rintro e w6 ⟨rfl, hb6⟩
  go_wp2_with fail
  go_ret2
  exact ⟨rfl, HW.out.trans (hb6.mono (by omega))⟩

theorem fix6_yes {v : Int} (h : Fits6 v) : fixE v 6 = 0 ∧ fixB v 6 = leb 6 v.toNat := by
  have e : (1 : Int) ≤ 6 ∧ (6 : Int) ≤ 7 ∧ 0 ≤ v ∧ v < 2 ^ (8 * (6 : Int).toNat) := ⟨by omega, by omega, h.1, by have := h.2; show v < 281474976710656; exact this⟩
  exact ⟨by rw [fixE, if_pos e], by rw [fixB, if_pos e]; rfl⟩
theorem fix6_no {v : Int} (h : ¬ Fits6 v) : fixE v 6 = 1 := by
  rw [fixE, if_neg]
  rintro ⟨_, _, a, b⟩
  exact h ⟨a, by show v < 281474976710656; exact b⟩
theorem fixTo_yes {v : Int} (hv : v ≤ 9223372036854775807) (h : Fits6 v) : FixTo v ⟨(leb 6 v.toNat).toArray⟩ 0 := by
  intro w
  have := fix_any v 6 w hv
  rwa [(fix6_yes h).1, (fix6_yes h).2] at this
theorem fixTo_no {v : Int} (hv : v ≤ 9223372036854775807) (h : ¬ Fits6 v) : FixTo v ⟨(fixB v 6).toArray⟩ 1 := by
  intro w
  have := fix_any v 6 w hv
  rwa [fix6_no h] at this
theorem leb6_size (v : Nat) : (⟨(leb 6 v).toArray⟩ : ByteArray).size = 6 := by show Array.size _ = 6; simp [leb_length]

/-- What Put tells, of any meta. -/
theorem mput_any (t r f p : Int) (w : World) (ht : IsInt t) (hr : IsInt r) (hf : IsInt f) (hp : IsInt p) :
    Calls Tryd.prog 5 #[metaV t r f p] w fun e w' => e = .returned (.tuple #[.string ⟨(putB t r f p).toArray⟩, .int .i64 (putE t r f p)]) ∧ Below w.heap.size w w' := by
  have kt : t ≤ 9223372036854775807 := ht.2
  have kr : r ≤ 9223372036854775807 := hr.2
  have kf : f ≤ 9223372036854775807 := hf.2
  have kp : p ≤ 9223372036854775807 := hp.2
  by_cases h0 : Fits6 t
  · by_cases h1 : Fits6 r
    · by_cases h2 : Fits6 f
      · by_cases h3 : Fits6 p
        · have hok : MetaOK t r f p := ⟨h0, h1, h2, h3⟩
          rw [putB, putE, if_pos hok, if_pos hok]
          have hB : ((⟨#[]⟩ : ByteArray) ++ ⟨(leb 6 t.toNat).toArray⟩ ++ ⟨(leb 6 r.toNat).toArray⟩ ++ ⟨(leb 6 f.toNat).toArray⟩ ++ ⟨(leb 6 p.toNat).toArray⟩).data.toList = mbody t.toNat r.toNat f.toNat p.toNat := by
            simp [mbody]
          have hBz : ((⟨#[]⟩ : ByteArray) ++ ⟨(leb 6 t.toNat).toArray⟩ ++ ⟨(leb 6 r.toNat).toArray⟩ ++ ⟨(leb 6 f.toNat).toArray⟩ ++ ⟨(leb 6 p.toNat).toArray⟩).size = 24 := by
            have := congrArg List.length hB
            rw [mbody_len] at this
            exact this
          refine put_last t r f p 0 _ _ _ _ _ _ w (leb6_size _) (fixTo_yes kt h0) (leb6_size _) (fixTo_yes kr h1) (leb6_size _) (fixTo_yes kf h2) (leb6_size _) (fixTo_yes kp h3) rfl ?_
          intro w
          have hs := seal_any (t % 2) 1 0 ((⟨#[]⟩ : ByteArray) ++ ⟨(leb 6 t.toNat).toArray⟩ ++ ⟨(leb 6 r.toNat).toArray⟩ ++ ⟨(leb 6 f.toNat).toArray⟩ ++ ⟨(leb 6 p.toNat).toArray⟩) w ⟨by omega, by omega⟩ ⟨by omega, by omega⟩ ⟨by omega, by omega⟩ (by omega)
          have hso : SealOK (t % 2) 1 0 := ⟨by omega, by omega, by omega, by omega, by omega, by omega⟩
          rw [hB, hBz, sealB, sealE, if_pos ⟨hso, by rw [mbody_len]; omega⟩, if_pos hso, if_pos (by omega)] at hs
          have e : (t % 2).toNat = t.toNat % 2 := by have := h0.1; omega
          rw [e] at hs
          exact hs
        · have hok : ¬ MetaOK t r f p := fun h => h3 h.2.2.2
          rw [putB, putE, if_neg hok, if_neg hok]
          exact put_fourth t r f p 1 _ _ _ _ w (leb6_size _) (fixTo_yes kt h0) (leb6_size _) (fixTo_yes kr h1) (leb6_size _) (fixTo_yes kf h2) (fixTo_no kp h3) rfl
      · have hok : ¬ MetaOK t r f p := fun h => h2 h.2.2.1
        rw [putB, putE, if_neg hok, if_neg hok]
        exact put_third t r f p 1 _ _ _ w (leb6_size _) (fixTo_yes kt h0) (leb6_size _) (fixTo_yes kr h1) (fixTo_no kf h2) rfl
    · have hok : ¬ MetaOK t r f p := fun h => h1 h.2.1
      rw [putB, putE, if_neg hok, if_neg hok]
      exact put_second t r f p 1 _ _ w (leb6_size _) (fixTo_yes kt h0) (fixTo_no kr h1) rfl
  · have hok : ¬ MetaOK t r f p := fun h => h0 h.1
    rw [putB, putE, if_neg hok, if_neg hok]
    exact put_first t r f p 1 _ w (fixTo_no kt h0) rfl
end Go.Proofs.YthcpjpebahiikaaDoor
