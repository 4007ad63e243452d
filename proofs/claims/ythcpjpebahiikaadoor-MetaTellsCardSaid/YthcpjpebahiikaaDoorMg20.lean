/-
  The document's own answers of chapter 5: Place, PutMeta.
-/
import Derived.Test.YthcpjpebahiikaaDoorMg16
import Derived.Test.YthcpjpebahiikaaDoorMg19
namespace Go.Proofs.YthcpjpebahiikaaDoor
open Go.RowKit Go.Lib

theorem refPlace_any (t : Int) (w : World) : Calls Tryd.prog 8 #[.int .i64 t] w fun e w' => e = .returned (.int .i64 (t % 2)) ∧ w = w' := by
  have hm : (0 ≤ t.tmod 2 ∧ t.tmod 2 = t % 2) ∨ (t.tmod 2 < 0 ∧ t.tmod 2 = -1 ∧ t % 2 = 1) := by
    by_cases h0 : 0 ≤ t
    · have := Int.tmod_eq_emod_of_nonneg (b := 2) h0
      omega
    · have h1 := Int.neg_tmod (a := -t) (b := 2)
      have h2 := Int.tmod_eq_emod_of_nonneg (a := -t) (b := 2) (by omega)
      rw [Int.neg_neg] at h1
      omega
  rcases hm with ⟨h1, h2⟩ | ⟨h1, h2, h3⟩
  · rw [h2] at h1
    have h4 : decide (t % 2 < 0) = false := by simpa using h1
    go_enter Tryd.func8, Tryd.ntmps8
    go_wp2
    go_ret
    exact ⟨rfl, rfl⟩
  · rw [h3]
    go_enter Tryd.func8, Tryd.ntmps8
    go_wp2
    go_ret
    exact ⟨rfl, rfl⟩

/-- What the document's Fix is called with. -/
def RFixTo (t : Int) (X : ByteArray) (E : Int) : Prop := ∀ w : World, Calls Tryd.prog 23 #[.int .i64 t, .int .i64 6] w fun e w' => e = .returned (.tuple #[.string X, .int .i64 E]) ∧ Below w.heap.size w w'
theorem rfixTo_yes {v : Int} (hv : v ≤ 9223372036854775807) (h : Fits6 v) : RFixTo v ⟨(leb 6 v.toNat).toArray⟩ 0 := by
  intro w
  have := refFix_any v 6 w hv
  rwa [(fix6_yes h).1, (fix6_yes h).2] at this
theorem rfixTo_no {v : Int} (hv : v ≤ 9223372036854775807) (h : ¬ Fits6 v) : RFixTo v ⟨(fixB v 6).toArray⟩ 1 := by
  intro w
  have := refFix_any v 6 w hv
  rwa [fix6_no h] at this
abbrev metaO (t r f p : Int) : Obj := .cells #[.int .i64 t, .int .i64 r, .int .i64 f, .int .i64 p] 23
/-- The meta and the list of its numbers. -/
def RPut (w : World) (t r f p : Int) (W : World) : Prop := Has W w.heap.size 23 #[.int .i64 t, .int .i64 r, .int .i64 f, .int .i64 p] ∧ Has W (w.heap.size + 1) 3 #[.int .i64 t, .int .i64 r, .int .i64 f, .int .i64 p] ∧ w.heap.size + 2 ≤ W.heap.size ∧ Below w.heap.size w W
theorem RPut.below {w W W' : World} {t r f p : Int} (h : RPut w t r f p W) (hb : Below W.heap.size W W') : RPut w t r f p W' :=
  ⟨h.1.below hb h.1.inside, h.2.1.below hb h.2.1.inside, Nat.le_trans h.2.2.1 hb.size, h.2.2.2.trans (hb.mono (by have := h.2.2.1; omega))⟩
abbrev fourO (t r f p : Int) : Obj := .cells #[.int .i64 t, .int .i64 r, .int .i64 f, .int .i64 p] 3

set_option maxRecDepth 100000 in
set_option maxHeartbeats 4000000 in
theorem rput_0 (t r f p E : Int) ( X : ByteArray) (w : World)  (h0 : RFixTo t X E) (hE : (E != 0) = true) :
    Calls Tryd.prog 6 #[metaV t r f p] w fun e w' => e = .returned (.tuple #[.string ByteArray.empty, .int .i64 E]) ∧ Below w.heap.size w w' := by
  have H0 := Lib.hid h0
  clear h0
  have hH := ((Has.made w 23 #[.int .i64 t, .int .i64 r, .int .i64 f, .int .i64 p]).alloc (fourO t r f p))
  have hG : Has ((w.alloc (metaO t r f p)).alloc (fourO t r f p)) (w.heap.size + 1) 3 #[.int .i64 t, .int .i64 r, .int .i64 f, .int .i64 p] := by simpa using Has.made (w.alloc (metaO t r f p)) 3 #[.int .i64 t, .int .i64 r, .int .i64 f, .int .i64 p]
  have hb := (((Below.refl w.heap.size w).alloc (Nat.le_refl _) (metaO t r f p)).alloc (by simp) (fourO t r f p))
  unfold metaV
  go_enter Tryd.func6, Tryd.ntmps6
  go_upto_region 2 with fail
  change Code.wp _ _ _ _ ((w.alloc (metaO t r f p)).alloc (fourO t r f p))
  generalize (w.alloc (metaO t r f p)).alloc (fourO t r f p) = W at *
  have h2 : w.heap.size + 2 ≤ W.heap.size := by have := hG.inside; omega
  have HG := Lib.hid (And.intro hH (And.intro hG (And.intro h2 hb)))
  clear hH hG hb h2
  go_wp2_with fail
  refine wp_loop_rounds 5 ?_
  obtain ⟨⟨a0, a1, a2, a3⟩, -⟩ := HG.out.2.1.four
  rw [rounds_succ]
  go_wp2_with fail
  refine (H0.out _).mono ?_
  rintro e w0 ⟨rfl, hb⟩
  replace HG := Lib.hid (RPut.below HG.out hb)
  clear a0 a1 a2 a3 hb
  go_wp2_with fail
  go_ret2
  exact ⟨rfl, HG.out.2.2.2⟩

set_option maxRecDepth 100000 in
set_option maxHeartbeats 4000000 in
theorem rput_1 (t r f p E : Int) (X0 X : ByteArray) (w : World) (z0 : X0.size = 6) (h0 : RFixTo t X0 0) (h1 : RFixTo r X E) (hE : (E != 0) = true) :
    Calls Tryd.prog 6 #[metaV t r f p] w fun e w' => e = .returned (.tuple #[.string ByteArray.empty, .int .i64 E]) ∧ Below w.heap.size w w' := by
  have H0 := Lib.hid h0
  have H1 := Lib.hid h1
  clear h0 h1
  have m0 : ¬ 9223372036854775807 < X0.size := by omega
  have hH := ((Has.made w 23 #[.int .i64 t, .int .i64 r, .int .i64 f, .int .i64 p]).alloc (fourO t r f p))
  have hG : Has ((w.alloc (metaO t r f p)).alloc (fourO t r f p)) (w.heap.size + 1) 3 #[.int .i64 t, .int .i64 r, .int .i64 f, .int .i64 p] := by simpa using Has.made (w.alloc (metaO t r f p)) 3 #[.int .i64 t, .int .i64 r, .int .i64 f, .int .i64 p]
  have hb := (((Below.refl w.heap.size w).alloc (Nat.le_refl _) (metaO t r f p)).alloc (by simp) (fourO t r f p))
  unfold metaV
  go_enter Tryd.func6, Tryd.ntmps6
  go_upto_region 2 with fail
  change Code.wp _ _ _ _ ((w.alloc (metaO t r f p)).alloc (fourO t r f p))
  generalize (w.alloc (metaO t r f p)).alloc (fourO t r f p) = W at *
  have h2 : w.heap.size + 2 ≤ W.heap.size := by have := hG.inside; omega
  have HG := Lib.hid (And.intro hH (And.intro hG (And.intro h2 hb)))
  clear hH hG hb h2
  go_wp2_with fail
  refine wp_loop_rounds 5 ?_
  obtain ⟨⟨a0, a1, a2, a3⟩, -⟩ := HG.out.2.1.four
  rw [rounds_succ]
  go_wp2_with fail
  refine (H0.out _).mono ?_
  rintro e w0 ⟨rfl, hb⟩
  replace HG := Lib.hid (RPut.below HG.out hb)
  clear a0 a1 a2 a3 hb
  go_wp2_with fail
  obtain ⟨⟨a0, a1, a2, a3⟩, -⟩ := HG.out.2.1.four
  rw [rounds_succ]
  go_wp2_with fail
  refine (H1.out _).mono ?_
  rintro e w1 ⟨rfl, hb⟩
  replace HG := Lib.hid (RPut.below HG.out hb)
  clear a0 a1 a2 a3 hb
  go_wp2_with fail
  go_ret2
  exact ⟨rfl, HG.out.2.2.2⟩

set_option maxRecDepth 100000 in
set_option maxHeartbeats 4000000 in
theorem rput_2 (t r f p E : Int) (X0 X1 X : ByteArray) (w : World) (z0 : X0.size = 6) (h0 : RFixTo t X0 0) (z1 : X1.size = 6) (h1 : RFixTo r X1 0) (h2 : RFixTo f X E) (hE : (E != 0) = true) :
    Calls Tryd.prog 6 #[metaV t r f p] w fun e w' => e = .returned (.tuple #[.string ByteArray.empty, .int .i64 E]) ∧ Below w.heap.size w w' := by
  have H0 := Lib.hid h0
  have H1 := Lib.hid h1
  have H2 := Lib.hid h2
  clear h0 h1 h2
  have m0 : ¬ 9223372036854775807 < X0.size := by omega
  have m1 : ¬ 9223372036854775807 < X0.size + X1.size := by omega
  have hH := ((Has.made w 23 #[.int .i64 t, .int .i64 r, .int .i64 f, .int .i64 p]).alloc (fourO t r f p))
  have hG : Has ((w.alloc (metaO t r f p)).alloc (fourO t r f p)) (w.heap.size + 1) 3 #[.int .i64 t, .int .i64 r, .int .i64 f, .int .i64 p] := by simpa using Has.made (w.alloc (metaO t r f p)) 3 #[.int .i64 t, .int .i64 r, .int .i64 f, .int .i64 p]
  have hb := (((Below.refl w.heap.size w).alloc (Nat.le_refl _) (metaO t r f p)).alloc (by simp) (fourO t r f p))
  unfold metaV
  go_enter Tryd.func6, Tryd.ntmps6
  go_upto_region 2 with fail
  change Code.wp _ _ _ _ ((w.alloc (metaO t r f p)).alloc (fourO t r f p))
  generalize (w.alloc (metaO t r f p)).alloc (fourO t r f p) = W at *
  have h2 : w.heap.size + 2 ≤ W.heap.size := by have := hG.inside; omega
  have HG := Lib.hid (And.intro hH (And.intro hG (And.intro h2 hb)))
  clear hH hG hb h2
  go_wp2_with fail
  refine wp_loop_rounds 5 ?_
  obtain ⟨⟨a0, a1, a2, a3⟩, -⟩ := HG.out.2.1.four
  rw [rounds_succ]
  go_wp2_with fail
  refine (H0.out _).mono ?_
  rintro e w0 ⟨rfl, hb⟩
  replace HG := Lib.hid (RPut.below HG.out hb)
  clear a0 a1 a2 a3 hb
  go_wp2_with fail
  obtain ⟨⟨a0, a1, a2, a3⟩, -⟩ := HG.out.2.1.four
  rw [rounds_succ]
  go_wp2_with fail
  refine (H1.out _).mono ?_
  rintro e w1 ⟨rfl, hb⟩
  replace HG := Lib.hid (RPut.below HG.out hb)
  clear a0 a1 a2 a3 hb
  go_wp2_with fail
  obtain ⟨⟨a0, a1, a2, a3⟩, -⟩ := HG.out.2.1.four
  rw [rounds_succ]
  go_wp2_with fail
  refine (H2.out _).mono ?_
  rintro e w2 ⟨rfl, hb⟩
  replace HG := Lib.hid (RPut.below HG.out hb)
  clear a0 a1 a2 a3 hb
  go_wp2_with fail
  go_ret2
  exact ⟨rfl, HG.out.2.2.2⟩

set_option maxRecDepth 100000 in
set_option maxHeartbeats 4000000 in
theorem rput_3 (t r f p E : Int) (X0 X1 X2 X : ByteArray) (w : World) (z0 : X0.size = 6) (h0 : RFixTo t X0 0) (z1 : X1.size = 6) (h1 : RFixTo r X1 0) (z2 : X2.size = 6) (h2 : RFixTo f X2 0) (h3 : RFixTo p X E) (hE : (E != 0) = true) :
    Calls Tryd.prog 6 #[metaV t r f p] w fun e w' => e = .returned (.tuple #[.string ByteArray.empty, .int .i64 E]) ∧ Below w.heap.size w w' := by
  have H0 := Lib.hid h0
  have H1 := Lib.hid h1
  have H2 := Lib.hid h2
  have H3 := Lib.hid h3
  clear h0 h1 h2 h3
  have m0 : ¬ 9223372036854775807 < X0.size := by omega
  have m1 : ¬ 9223372036854775807 < X0.size + X1.size := by omega
  have m2 : ¬ 9223372036854775807 < X0.size + X1.size + X2.size := by omega
  have hH := ((Has.made w 23 #[.int .i64 t, .int .i64 r, .int .i64 f, .int .i64 p]).alloc (fourO t r f p))
  have hG : Has ((w.alloc (metaO t r f p)).alloc (fourO t r f p)) (w.heap.size + 1) 3 #[.int .i64 t, .int .i64 r, .int .i64 f, .int .i64 p] := by simpa using Has.made (w.alloc (metaO t r f p)) 3 #[.int .i64 t, .int .i64 r, .int .i64 f, .int .i64 p]
  have hb := (((Below.refl w.heap.size w).alloc (Nat.le_refl _) (metaO t r f p)).alloc (by simp) (fourO t r f p))
  unfold metaV
  go_enter Tryd.func6, Tryd.ntmps6
  go_upto_region 2 with fail
  change Code.wp _ _ _ _ ((w.alloc (metaO t r f p)).alloc (fourO t r f p))
  generalize (w.alloc (metaO t r f p)).alloc (fourO t r f p) = W at *
  have h2 : w.heap.size + 2 ≤ W.heap.size := by have := hG.inside; omega
  have HG := Lib.hid (And.intro hH (And.intro hG (And.intro h2 hb)))
  clear hH hG hb h2
  go_wp2_with fail
  refine wp_loop_rounds 5 ?_
  obtain ⟨⟨a0, a1, a2, a3⟩, -⟩ := HG.out.2.1.four
  rw [rounds_succ]
  go_wp2_with fail
  refine (H0.out _).mono ?_
  rintro e w0 ⟨rfl, hb⟩
  replace HG := Lib.hid (RPut.below HG.out hb)
  clear a0 a1 a2 a3 hb
  go_wp2_with fail
  obtain ⟨⟨a0, a1, a2, a3⟩, -⟩ := HG.out.2.1.four
  rw [rounds_succ]
  go_wp2_with fail
  refine (H1.out _).mono ?_
  rintro e w1 ⟨rfl, hb⟩
  replace HG := Lib.hid (RPut.below HG.out hb)
  clear a0 a1 a2 a3 hb
  go_wp2_with fail
  obtain ⟨⟨a0, a1, a2, a3⟩, -⟩ := HG.out.2.1.four
  rw [rounds_succ]
  go_wp2_with fail
  refine (H2.out _).mono ?_
  rintro e w2 ⟨rfl, hb⟩
  replace HG := Lib.hid (RPut.below HG.out hb)
  clear a0 a1 a2 a3 hb
  go_wp2_with fail
  obtain ⟨⟨a0, a1, a2, a3⟩, -⟩ := HG.out.2.1.four
  rw [rounds_succ]
  go_wp2_with fail
  refine (H3.out _).mono ?_
  rintro e w3 ⟨rfl, hb⟩
  replace HG := Lib.hid (RPut.below HG.out hb)
  clear a0 a1 a2 a3 hb
  go_wp2_with fail
  go_ret2
  exact ⟨rfl, HG.out.2.2.2⟩

set_option maxRecDepth 100000 in
set_option maxHeartbeats 4000000 in
theorem rput_4 (t r f p E : Int) (X0 X1 X2 X3 X B : ByteArray) (w : World) (z0 : X0.size = 6) (h0 : RFixTo t X0 0) (z1 : X1.size = 6) (h1 : RFixTo r X1 0) (z2 : X2.size = 6) (h2 : RFixTo f X2 0) (z3 : X3.size = 6) (h3 : RFixTo p X3 0)
    (hB : (⟨#[]⟩ : ByteArray) ++ X0 ++ X1 ++ X2 ++ X3 = B)
    (hS : ∀ w : World, Calls Tryd.prog 24 #[.int .i64 (t % 2), .agg #[.int .i64 1, .int .i64 0, .string B]] w fun e w' => e = .returned (.tuple #[.string X, .int .i64 E]) ∧ Below w.heap.size w w') :
    Calls Tryd.prog 6 #[metaV t r f p] w fun e w' => e = .returned (.tuple #[.string X, .int .i64 E]) ∧ Below w.heap.size w w' := by
  have H0 := Lib.hid h0
  have H1 := Lib.hid h1
  have H2 := Lib.hid h2
  have H3 := Lib.hid h3
  clear h0 h1 h2 h3
  have HB := Lib.hid hB
  have HS := Lib.hid hS
  clear hB hS
  have m0 : ¬ 9223372036854775807 < X0.size := by omega
  have m1 : ¬ 9223372036854775807 < X0.size + X1.size := by omega
  have m2 : ¬ 9223372036854775807 < X0.size + X1.size + X2.size := by omega
  have m3 : ¬ 9223372036854775807 < X0.size + X1.size + X2.size + X3.size := by omega
  have hH := ((Has.made w 23 #[.int .i64 t, .int .i64 r, .int .i64 f, .int .i64 p]).alloc (fourO t r f p))
  have hG : Has ((w.alloc (metaO t r f p)).alloc (fourO t r f p)) (w.heap.size + 1) 3 #[.int .i64 t, .int .i64 r, .int .i64 f, .int .i64 p] := by simpa using Has.made (w.alloc (metaO t r f p)) 3 #[.int .i64 t, .int .i64 r, .int .i64 f, .int .i64 p]
  have hb := (((Below.refl w.heap.size w).alloc (Nat.le_refl _) (metaO t r f p)).alloc (by simp) (fourO t r f p))
  unfold metaV
  go_enter Tryd.func6, Tryd.ntmps6
  go_upto_region 2 with fail
  change Code.wp _ _ _ _ ((w.alloc (metaO t r f p)).alloc (fourO t r f p))
  generalize (w.alloc (metaO t r f p)).alloc (fourO t r f p) = W at *
  have h2 : w.heap.size + 2 ≤ W.heap.size := by have := hG.inside; omega
  have HG := Lib.hid (And.intro hH (And.intro hG (And.intro h2 hb)))
  clear hH hG hb h2
  go_wp2_with fail
  refine wp_loop_rounds 5 ?_
  obtain ⟨⟨a0, a1, a2, a3⟩, -⟩ := HG.out.2.1.four
  rw [rounds_succ]
  go_wp2_with fail
  refine (H0.out _).mono ?_
  rintro e w0 ⟨rfl, hb⟩
  replace HG := Lib.hid (RPut.below HG.out hb)
  clear a0 a1 a2 a3 hb
  go_wp2_with fail
  obtain ⟨⟨a0, a1, a2, a3⟩, -⟩ := HG.out.2.1.four
  rw [rounds_succ]
  go_wp2_with fail
  refine (H1.out _).mono ?_
  rintro e w1 ⟨rfl, hb⟩
  replace HG := Lib.hid (RPut.below HG.out hb)
  clear a0 a1 a2 a3 hb
  go_wp2_with fail
  obtain ⟨⟨a0, a1, a2, a3⟩, -⟩ := HG.out.2.1.four
  rw [rounds_succ]
  go_wp2_with fail
  refine (H2.out _).mono ?_
  rintro e w2 ⟨rfl, hb⟩
  replace HG := Lib.hid (RPut.below HG.out hb)
  clear a0 a1 a2 a3 hb
  go_wp2_with fail
  obtain ⟨⟨a0, a1, a2, a3⟩, -⟩ := HG.out.2.1.four
  rw [rounds_succ]
  go_wp2_with fail
  refine (H3.out _).mono ?_
  rintro e w3 ⟨rfl, hb⟩
  replace HG := Lib.hid (RPut.below HG.out hb)
  clear a0 a1 a2 a3 hb
  go_wp2_with fail
  obtain ⟨⟨a0, a1, a2, a3⟩, -⟩ := HG.out.2.1.four
  have c0 := HG.out.1.four.1.1
  have hz : w.heap.size ≤ w3.heap.size := by have := HG.out.2.2.1; omega
  rw [rounds_succ]
  go_wp2_with (go_at_call 8; refine (refPlace_any _ _).mono ?_; rintro e w5 ⟨rfl, rfl⟩)
  rw [HB.out]
  refine (HS.out _).mono ?_
  rintro e w6 ⟨rfl, hb6⟩
  go_wp2_with fail
  go_ret2
  exact ⟨rfl, HG.out.2.2.2.trans (hb6.mono hz)⟩

/-- What the document's PutMeta tells, of any meta. -/
theorem refPutMeta_any (t r f p : Int) (w : World) (ht : IsInt t) (hr : IsInt r) (hf : IsInt f) (hp : IsInt p) :
    Calls Tryd.prog 6 #[metaV t r f p] w fun e w' => e = .returned (.tuple #[.string ⟨(putB t r f p).toArray⟩, .int .i64 (putE t r f p)]) ∧ Below w.heap.size w w' := by
  have kt : t ≤ 9223372036854775807 := ht.2
  have kr : r ≤ 9223372036854775807 := hr.2
  have kf : f ≤ 9223372036854775807 := hf.2
  have kp : p ≤ 9223372036854775807 := hp.2
  by_cases h0 : Fits6 t
  · by_cases h1 : Fits6 r
    · by_cases h2 : Fits6 f
      · by_cases h3 : Fits6 p
        · have hok : MetaOK t r f p := ⟨h0, h1, h2, h3⟩
          rw [putB, putE, if_pos hok, if_pos hok]
          have hB : ((⟨#[]⟩ : ByteArray) ++ ⟨(leb 6 t.toNat).toArray⟩ ++ ⟨(leb 6 r.toNat).toArray⟩ ++ ⟨(leb 6 f.toNat).toArray⟩ ++ ⟨(leb 6 p.toNat).toArray⟩).data.toList = mbody t.toNat r.toNat f.toNat p.toNat := by
            simp [mbody]
          have hBz : ((⟨#[]⟩ : ByteArray) ++ ⟨(leb 6 t.toNat).toArray⟩ ++ ⟨(leb 6 r.toNat).toArray⟩ ++ ⟨(leb 6 f.toNat).toArray⟩ ++ ⟨(leb 6 p.toNat).toArray⟩).size = 24 := by
            have := congrArg List.length hB
            rw [mbody_len] at this
            exact this
          refine rput_4 t r f p 0 _ _ _ _ _ _ w (leb6_size _) (rfixTo_yes kt h0) (leb6_size _) (rfixTo_yes kr h1) (leb6_size _) (rfixTo_yes kf h2) (leb6_size _) (rfixTo_yes kp h3) rfl ?_
          intro w
          have hs := refSeal_any (t % 2) 1 0 ((⟨#[]⟩ : ByteArray) ++ ⟨(leb 6 t.toNat).toArray⟩ ++ ⟨(leb 6 r.toNat).toArray⟩ ++ ⟨(leb 6 f.toNat).toArray⟩ ++ ⟨(leb 6 p.toNat).toArray⟩) w (by omega)
          have hso : SealOK (t % 2) 1 0 := ⟨by omega, by omega, by omega, by omega, by omega, by omega⟩
          rw [hB, hBz, sealB, sealE, if_pos ⟨hso, by rw [mbody_len]; omega⟩, if_pos hso, if_pos (by omega)] at hs
          have e : (t % 2).toNat = t.toNat % 2 := by have := h0.1; omega
          rw [e] at hs
          exact hs
        · have hok : ¬ MetaOK t r f p := fun h => h3 h.2.2.2
          rw [putB, putE, if_neg hok, if_neg hok]
          exact rput_3 t r f p 1 _ _ _ _ w (leb6_size _) (rfixTo_yes kt h0) (leb6_size _) (rfixTo_yes kr h1) (leb6_size _) (rfixTo_yes kf h2) (rfixTo_no kp h3) rfl
      · have hok : ¬ MetaOK t r f p := fun h => h2 h.2.2.1
        rw [putB, putE, if_neg hok, if_neg hok]
        exact rput_2 t r f p 1 _ _ _ w (leb6_size _) (rfixTo_yes kt h0) (leb6_size _) (rfixTo_yes kr h1) (rfixTo_no kf h2) rfl
    · have hok : ¬ MetaOK t r f p := fun h => h1 h.2.1
      rw [putB, putE, if_neg hok, if_neg hok]
      exact rput_1 t r f p 1 _ _ w (leb6_size _) (rfixTo_yes kt h0) (rfixTo_no kr h1) rfl
  · have hok : ¬ MetaOK t r f p := fun h => h0 h.1
    rw [putB, putE, if_neg hok, if_neg hok]
    exact rput_0 t r f p 1 _ w (rfixTo_no kt h0) rfl
end Go.Proofs.YthcpjpebahiikaaDoor
