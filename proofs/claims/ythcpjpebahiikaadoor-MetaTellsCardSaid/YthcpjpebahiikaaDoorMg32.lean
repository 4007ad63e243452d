/-
  Walks over package meta: Write, and Choose.
-/
import Derived.Test.YthcpjpebahiikaaDoorMg16
import Derived.Test.YthcpjpebahiikaaDoorMg31
import Derived.Deep.Cut
namespace Go.Proofs.YthcpjpebahiikaaDoor
open Go.RowKit Go.Lib

/-- What a page is read as by a device whose call is P, from world w on. -/
def ReadTo (P : Value) (w : World) (i : Int) (b : ByteArray) (E : Int) : Prop :=
  ∀ w' : World, Below w.heap.size w w' → Calls Tryd.prog 36 #[P, .int .i64 i] w' fun e w'' => e = .returned (.tuple #[.string b, .int .i64 E]) ∧ Below w'.heap.size w' w''
def GetTo (i : Int) (b : ByteArray) (t r f p E : Int) : Prop :=
  ∀ w' : World, Calls Tryd.prog 9 #[.int .i64 i, .string b] w' fun e w'' => e = .returned (.tuple #[.agg #[.int .i64 t, .int .i64 r, .int .i64 f, .int .i64 p], .int .i64 E]) ∧ Below w'.heap.size w' w''

/-- Where Choose stands: the answer's place, and the newest meta's. -/
structure ChoAt (w W : World) (n0 n1 n2 n3 : Int) : Prop where
  ans : Has W w.heap.size 23 #[.int .i64 0, .int .i64 0, .int .i64 0, .int .i64 0]
  new : Has W (w.heap.size + 1) 23 #[.int .i64 n0, .int .i64 n1, .int .i64 n2, .int .i64 n3]
  bel : Below w.heap.size w W
  siz : w.heap.size + 2 ≤ W.heap.size
abbrev metaZ : Obj := .cells #[.int .i64 0, .int .i64 0, .int .i64 0, .int .i64 0] 23
theorem ChoAt.begin (w : World) : ChoAt w ((w.alloc metaZ).alloc metaZ) 0 0 0 0 :=
  ⟨(Has.made w _ _).alloc _, by simpa using Has.made (w.alloc metaZ) 23 #[.int .i64 0, .int .i64 0, .int .i64 0, .int .i64 0], ((Below.refl _ _).alloc (Nat.le_refl _) _).alloc (by simp) _, by simp⟩
section
variable {w W W' : World} {n0 n1 n2 n3 : Int}
theorem ChoAt.below (h : ChoAt w W n0 n1 n2 n3) (hb : Below W.heap.size W W') : ChoAt w W' n0 n1 n2 n3 :=
  have := h.siz
  ⟨h.ans.below hb (by omega), h.new.below hb (by omega), h.bel.trans (hb.mono (by omega)), Nat.le_trans h.siz hb.size⟩
theorem ChoAt.got (h : ChoAt w W n0 n1 n2 n3) (a0 a1 a2 a3 : Int) : ChoAt w (W.alloc (.cells #[.int .i64 a0, .int .i64 a1, .int .i64 a2, .int .i64 a3] 23)) n0 n1 n2 n3 ∧ Has (W.alloc (.cells #[.int .i64 a0, .int .i64 a1, .int .i64 a2, .int .i64 a3] 23)) W.heap.size 23 #[.int .i64 a0, .int .i64 a1, .int .i64 a2, .int .i64 a3] ∧
    (W.alloc (.cells #[.int .i64 a0, .int .i64 a1, .int .i64 a2, .int .i64 a3] 23)).heap.size = W.heap.size + 1 := by
  have := h.siz
  exact ⟨h.below ((Below.refl _ _).alloc (Nat.le_refl _) _), Has.made W _ _, by simp⟩
theorem ChoAt.more (h : ChoAt w W n0 n1 n2 n3) : ChoAt w (W.alloc metaZ) n0 n1 n2 n3 := h.below ((Below.refl _ _).alloc (Nat.le_refl _) _)
theorem ChoAt.take (h : ChoAt w W n0 n1 n2 n3) (a0 a1 a2 a3 : Int) : ChoAt w (metaSet W (w.heap.size + 1) a0 a1 a2 a3) a0 a1 a2 a3 :=
  ⟨h.ans.metaSet_past (by omega) _ _ _ _, h.new.metaSet _ _ _ _, metaSet_below h.bel (by omega) _ _ _ _, by rw [metaSet_size]; exact h.siz⟩
theorem ChoAt.done (h : ChoAt w W n0 n1 n2 n3) (a0 a1 a2 a3 : Int) : Has (metaSet W w.heap.size a0 a1 a2 a3) w.heap.size 23 #[.int .i64 a0, .int .i64 a1, .int .i64 a2, .int .i64 a3] ∧ Below w.heap.size w (metaSet W w.heap.size a0 a1 a2 a3) :=
  ⟨h.ans.metaSet _ _ _ _, metaSet_below h.bel (Nat.le_refl _) _ _ _ _⟩
end


set_option maxRecDepth 100000 in
set_option maxHeartbeats 4000000 in
theorem cho_both (P : Value) (b0 b1 : ByteArray) (a0 a1 a2 a3 c0 c1 c2 c3 E0 E1 : Int) (w : World) (hR0 : ReadTo P w 0 b0 0) (hR1 : ReadTo P w 1 b1 0) (hG0 : GetTo 0 b0 a0 a1 a2 a3 0) (hG1 : GetTo 1 b1 c0 c1 c2 c3 0) (hlt : decide (a0 < c0) = true) :
    Calls Tryd.prog 18 #[P] w fun e w' => e = .returned (.tuple #[.agg #[.int .i64 c0, .int .i64 c1, .int .i64 c2, .int .i64 c3], .int .i64 0]) ∧ Below w.heap.size w w' := by
  have HR0 := Lib.hid hR0
  have HR1 := Lib.hid hR1
  have HG0 := Lib.hid hG0
  have HG1 := Lib.hid hG1
  have HC0 := Lib.hid (ChoAt.begin w)
  clear hR0 hR1 hG0 hG1
  go_enter Tryd.func18, Tryd.ntmps18
  go_wp2_with fail
  refine wp_loop_rounds 3 ?_
  rw [rounds_succ]
  go_wp2_with fail
  refine (HR0.out _ HC0.out.bel).mono ?_
  rintro e w1 ⟨rfl, hb⟩
  have HC1 := Lib.hid (HC0.out.below hb)
  clear HC0 hb
  go_wp2_with fail
  refine (HG0.out _).mono ?_
  rintro e w2 ⟨rfl, hb⟩
  obtain ⟨hC, hM, hz⟩ := (HC1.out.below hb).got a0 a1 a2 a3
  have hs2 : w.heap.size + 1 < w2.heap.size := (HC1.out.below hb).siz
  clear HC1 hb hz
  have HC3 := Lib.hid hC
  have HM := Lib.hid hM
  clear hC hM
  go_upto_region 9 with fail
  change Code.wp _ _ _ _ (w2.alloc (.cells #[.int .i64 a0, .int .i64 a1, .int .i64 a2, .int .i64 a3] 23))
  generalize w2.alloc (.cells #[.int .i64 a0, .int .i64 a1, .int .i64 a2, .int .i64 a3] 23) = w3 at *
  obtain ⟨⟨m0, m1, m2, m3⟩, -⟩ := HM.out.four
  obtain ⟨⟨q0, q1, q2, q3⟩, f0, f1, f2, f3⟩ := HC3.out.new.four
  go_wp2_with fail
  clear m0 m1 m2 m3 q0 q1 q2 q3 f0 f1 f2 f3 HM
  have HC4 := Lib.hid (HC3.out.take a0 a1 a2 a3)
  change Code.rounds _ _ _ _ _ (metaSet w3 (w.heap.size + 1) a0 a1 a2 a3)
  generalize metaSet w3 (w.heap.size + 1) a0 a1 a2 a3 = w4 at *
  rw [rounds_succ]
  go_wp2_with fail
  refine (HR1.out _ HC4.out.bel).mono ?_
  rintro e w5 ⟨rfl, hb⟩
  have HC5 := Lib.hid (HC4.out.below hb)
  clear HC4 hb
  go_wp2_with fail
  refine (HG1.out _).mono ?_
  rintro e w6 ⟨rfl, hb⟩
  obtain ⟨hC, hM, hz⟩ := (HC5.out.below hb).got c0 c1 c2 c3
  have hs6 : w.heap.size + 1 < w6.heap.size := (HC5.out.below hb).siz
  clear HC5 hb hz
  have HC7 := Lib.hid hC
  have HM := Lib.hid hM
  clear hC hM
  go_upto_region 9 with fail
  change Code.wp _ _ _ _ (w6.alloc (.cells #[.int .i64 c0, .int .i64 c1, .int .i64 c2, .int .i64 c3] 23))
  generalize w6.alloc (.cells #[.int .i64 c0, .int .i64 c1, .int .i64 c2, .int .i64 c3] 23) = w7 at *
  obtain ⟨⟨m0, m1, m2, m3⟩, -⟩ := HM.out.four
  obtain ⟨⟨q0, q1, q2, q3⟩, f0, f1, f2, f3⟩ := HC7.out.new.four
  go_wp2_with fail
  clear m0 m1 m2 m3 q0 q1 q2 q3 f0 f1 f2 f3 HM
  have HC8 := Lib.hid (HC7.out.take c0 c1 c2 c3)
  change Code.rounds _ _ _ _ _ (metaSet w7 (w.heap.size + 1) c0 c1 c2 c3)
  generalize metaSet w7 (w.heap.size + 1) c0 c1 c2 c3 = w8 at *
  rw [rounds_succ]
  obtain ⟨⟨q0, q1, q2, q3⟩, f0, f1, f2, f3⟩ := HC8.out.new.four
  obtain ⟨⟨p0, p1, p2, p3⟩, g0, g1, g2, g3⟩ := HC8.out.ans.four
  go_wp2_with fail
  clear q0 q1 q2 q3 f0 f1 f2 f3 p0 p1 p2 p3 g0 g1 g2 g3
  change bodyPost _ _ _ _ _ (metaSet w8 w.heap.size c0 c1 c2 c3)
  obtain ⟨hh, hb⟩ := HC8.out.done c0 c1 c2 c3
  obtain ⟨⟨k0, k1, k2, k3⟩, -⟩ := hh.four
  clear hh
  generalize metaSet w8 w.heap.size c0 c1 c2 c3 = wz at *
  exact bodyPost_ret (v := .tuple #[.agg #[.int .i64 c0, .int .i64 c1, .int .i64 c2, .int .i64 c3], .int .i64 0]) (by simp [results, Tryd.results18, go_sem, k0, k1, k2, k3]) rfl ⟨rfl, hb⟩

set_option maxRecDepth 100000 in
set_option maxHeartbeats 4000000 in
theorem cho_keep (P : Value) (b0 b1 : ByteArray) (a0 a1 a2 a3 c0 c1 c2 c3 E0 E1 : Int) (w : World) (hR0 : ReadTo P w 0 b0 0) (hR1 : ReadTo P w 1 b1 0) (hG0 : GetTo 0 b0 a0 a1 a2 a3 0) (hG1 : GetTo 1 b1 c0 c1 c2 c3 0) (hlt : decide (a0 < c0) = false) :
    Calls Tryd.prog 18 #[P] w fun e w' => e = .returned (.tuple #[.agg #[.int .i64 a0, .int .i64 a1, .int .i64 a2, .int .i64 a3], .int .i64 0]) ∧ Below w.heap.size w w' := by
  have HR0 := Lib.hid hR0
  have HR1 := Lib.hid hR1
  have HG0 := Lib.hid hG0
  have HG1 := Lib.hid hG1
  have HC0 := Lib.hid (ChoAt.begin w)
  clear hR0 hR1 hG0 hG1
  go_enter Tryd.func18, Tryd.ntmps18
  go_wp2_with fail
  refine wp_loop_rounds 3 ?_
  rw [rounds_succ]
  go_wp2_with fail
  refine (HR0.out _ HC0.out.bel).mono ?_
  rintro e w1 ⟨rfl, hb⟩
  have HC1 := Lib.hid (HC0.out.below hb)
  clear HC0 hb
  go_wp2_with fail
  refine (HG0.out _).mono ?_
  rintro e w2 ⟨rfl, hb⟩
  obtain ⟨hC, hM, hz⟩ := (HC1.out.below hb).got a0 a1 a2 a3
  have hs2 : w.heap.size + 1 < w2.heap.size := (HC1.out.below hb).siz
  clear HC1 hb hz
  have HC3 := Lib.hid hC
  have HM := Lib.hid hM
  clear hC hM
  go_upto_region 9 with fail
  change Code.wp _ _ _ _ (w2.alloc (.cells #[.int .i64 a0, .int .i64 a1, .int .i64 a2, .int .i64 a3] 23))
  generalize w2.alloc (.cells #[.int .i64 a0, .int .i64 a1, .int .i64 a2, .int .i64 a3] 23) = w3 at *
  obtain ⟨⟨m0, m1, m2, m3⟩, -⟩ := HM.out.four
  obtain ⟨⟨q0, q1, q2, q3⟩, f0, f1, f2, f3⟩ := HC3.out.new.four
  go_wp2_with fail
  clear m0 m1 m2 m3 q0 q1 q2 q3 f0 f1 f2 f3 HM
  have HC4 := Lib.hid (HC3.out.take a0 a1 a2 a3)
  change Code.rounds _ _ _ _ _ (metaSet w3 (w.heap.size + 1) a0 a1 a2 a3)
  generalize metaSet w3 (w.heap.size + 1) a0 a1 a2 a3 = w4 at *
  rw [rounds_succ]
  go_wp2_with fail
  refine (HR1.out _ HC4.out.bel).mono ?_
  rintro e w5 ⟨rfl, hb⟩
  have HC5 := Lib.hid (HC4.out.below hb)
  clear HC4 hb
  go_wp2_with fail
  refine (HG1.out _).mono ?_
  rintro e w6 ⟨rfl, hb⟩
  obtain ⟨hC, hM, hz⟩ := (HC5.out.below hb).got c0 c1 c2 c3
  have hs6 : w.heap.size + 1 < w6.heap.size := (HC5.out.below hb).siz
  clear HC5 hb hz
  have HC7 := Lib.hid hC
  have HM := Lib.hid hM
  clear hC hM
  go_upto_region 9 with fail
  change Code.wp _ _ _ _ (w6.alloc (.cells #[.int .i64 c0, .int .i64 c1, .int .i64 c2, .int .i64 c3] 23))
  generalize w6.alloc (.cells #[.int .i64 c0, .int .i64 c1, .int .i64 c2, .int .i64 c3] 23) = w7 at *
  obtain ⟨⟨m0, m1, m2, m3⟩, -⟩ := HM.out.four
  obtain ⟨⟨q0, q1, q2, q3⟩, f0, f1, f2, f3⟩ := HC7.out.new.four
  go_wp2_with fail
  clear m0 m1 m2 m3 q0 q1 q2 q3 f0 f1 f2 f3 HM
  rw [rounds_succ]
  obtain ⟨⟨q0, q1, q2, q3⟩, f0, f1, f2, f3⟩ := HC7.out.new.four
  obtain ⟨⟨p0, p1, p2, p3⟩, g0, g1, g2, g3⟩ := HC7.out.ans.four
  go_wp2_with fail
  clear q0 q1 q2 q3 f0 f1 f2 f3 p0 p1 p2 p3 g0 g1 g2 g3
  change bodyPost _ _ _ _ _ (metaSet w7 w.heap.size a0 a1 a2 a3)
  obtain ⟨hh, hb⟩ := HC7.out.done a0 a1 a2 a3
  obtain ⟨⟨k0, k1, k2, k3⟩, -⟩ := hh.four
  clear hh
  generalize metaSet w7 w.heap.size a0 a1 a2 a3 = wz at *
  exact bodyPost_ret (v := .tuple #[.agg #[.int .i64 a0, .int .i64 a1, .int .i64 a2, .int .i64 a3], .int .i64 0]) (by simp [results, Tryd.results18, go_sem, k0, k1, k2, k3]) rfl ⟨rfl, hb⟩

set_option maxRecDepth 100000 in
set_option maxHeartbeats 4000000 in
theorem cho_first (P : Value) (b0 b1 : ByteArray) (a0 a1 a2 a3 c0 c1 c2 c3 E0 E1 : Int) (w : World) (hR0 : ReadTo P w 0 b0 0) (hR1 : ReadTo P w 1 b1 0) (hG0 : GetTo 0 b0 a0 a1 a2 a3 0) (hG1 : GetTo 1 b1 0 0 0 0 E1) (hE1 : (E1 != 0) = true) :
    Calls Tryd.prog 18 #[P] w fun e w' => e = .returned (.tuple #[.agg #[.int .i64 a0, .int .i64 a1, .int .i64 a2, .int .i64 a3], .int .i64 0]) ∧ Below w.heap.size w w' := by
  have HR0 := Lib.hid hR0
  have HR1 := Lib.hid hR1
  have HG0 := Lib.hid hG0
  have HG1 := Lib.hid hG1
  have HC0 := Lib.hid (ChoAt.begin w)
  clear hR0 hR1 hG0 hG1
  go_enter Tryd.func18, Tryd.ntmps18
  go_wp2_with fail
  refine wp_loop_rounds 3 ?_
  rw [rounds_succ]
  go_wp2_with fail
  refine (HR0.out _ HC0.out.bel).mono ?_
  rintro e w1 ⟨rfl, hb⟩
  have HC1 := Lib.hid (HC0.out.below hb)
  clear HC0 hb
  go_wp2_with fail
  refine (HG0.out _).mono ?_
  rintro e w2 ⟨rfl, hb⟩
  obtain ⟨hC, hM, hz⟩ := (HC1.out.below hb).got a0 a1 a2 a3
  have hs2 : w.heap.size + 1 < w2.heap.size := (HC1.out.below hb).siz
  clear HC1 hb hz
  have HC3 := Lib.hid hC
  have HM := Lib.hid hM
  clear hC hM
  go_upto_region 9 with fail
  change Code.wp _ _ _ _ (w2.alloc (.cells #[.int .i64 a0, .int .i64 a1, .int .i64 a2, .int .i64 a3] 23))
  generalize w2.alloc (.cells #[.int .i64 a0, .int .i64 a1, .int .i64 a2, .int .i64 a3] 23) = w3 at *
  obtain ⟨⟨m0, m1, m2, m3⟩, -⟩ := HM.out.four
  obtain ⟨⟨q0, q1, q2, q3⟩, f0, f1, f2, f3⟩ := HC3.out.new.four
  go_wp2_with fail
  clear m0 m1 m2 m3 q0 q1 q2 q3 f0 f1 f2 f3 HM
  have HC4 := Lib.hid (HC3.out.take a0 a1 a2 a3)
  change Code.rounds _ _ _ _ _ (metaSet w3 (w.heap.size + 1) a0 a1 a2 a3)
  generalize metaSet w3 (w.heap.size + 1) a0 a1 a2 a3 = w4 at *
  rw [rounds_succ]
  go_wp2_with fail
  refine (HR1.out _ HC4.out.bel).mono ?_
  rintro e w5 ⟨rfl, hb⟩
  have HC5 := Lib.hid (HC4.out.below hb)
  clear HC4 hb
  go_wp2_with fail
  refine (HG1.out _).mono ?_
  rintro e w6 ⟨rfl, hb⟩
  have HC7 := Lib.hid ((HC5.out.below hb).more)
  clear HC5 hb
  go_upto_region 9 with fail
  change Code.wp _ _ _ _ (w6.alloc metaZ)
  generalize w6.alloc metaZ = w7 at *
  go_wp2_with fail
  rw [rounds_succ]
  obtain ⟨⟨q0, q1, q2, q3⟩, f0, f1, f2, f3⟩ := HC7.out.new.four
  obtain ⟨⟨p0, p1, p2, p3⟩, g0, g1, g2, g3⟩ := HC7.out.ans.four
  go_wp2_with fail
  clear q0 q1 q2 q3 f0 f1 f2 f3 p0 p1 p2 p3 g0 g1 g2 g3
  change bodyPost _ _ _ _ _ (metaSet w7 w.heap.size a0 a1 a2 a3)
  obtain ⟨hh, hb⟩ := HC7.out.done a0 a1 a2 a3
  obtain ⟨⟨k0, k1, k2, k3⟩, -⟩ := hh.four
  clear hh
  generalize metaSet w7 w.heap.size a0 a1 a2 a3 = wz at *
  exact bodyPost_ret (v := .tuple #[.agg #[.int .i64 a0, .int .i64 a1, .int .i64 a2, .int .i64 a3], .int .i64 0]) (by simp [results, Tryd.results18, go_sem, k0, k1, k2, k3]) rfl ⟨rfl, hb⟩

set_option maxRecDepth 100000 in
set_option maxHeartbeats 4000000 in
theorem cho_second (P : Value) (b0 b1 : ByteArray) (a0 a1 a2 a3 c0 c1 c2 c3 E0 E1 : Int) (w : World) (hR0 : ReadTo P w 0 b0 0) (hR1 : ReadTo P w 1 b1 0) (hG0 : GetTo 0 b0 0 0 0 0 E0) (hE0 : (E0 != 0) = true) (hG1 : GetTo 1 b1 c0 c1 c2 c3 0) :
    Calls Tryd.prog 18 #[P] w fun e w' => e = .returned (.tuple #[.agg #[.int .i64 c0, .int .i64 c1, .int .i64 c2, .int .i64 c3], .int .i64 0]) ∧ Below w.heap.size w w' := by
  have HR0 := Lib.hid hR0
  have HR1 := Lib.hid hR1
  have HG0 := Lib.hid hG0
  have HG1 := Lib.hid hG1
  have HC0 := Lib.hid (ChoAt.begin w)
  clear hR0 hR1 hG0 hG1
  go_enter Tryd.func18, Tryd.ntmps18
  go_wp2_with fail
  refine wp_loop_rounds 3 ?_
  rw [rounds_succ]
  go_wp2_with fail
  refine (HR0.out _ HC0.out.bel).mono ?_
  rintro e w1 ⟨rfl, hb⟩
  have HC1 := Lib.hid (HC0.out.below hb)
  clear HC0 hb
  go_wp2_with fail
  refine (HG0.out _).mono ?_
  rintro e w2 ⟨rfl, hb⟩
  have HC3 := Lib.hid ((HC1.out.below hb).more)
  clear HC1 hb
  go_upto_region 9 with fail
  change Code.wp _ _ _ _ (w2.alloc metaZ)
  generalize w2.alloc metaZ = w3 at *
  go_wp2_with fail
  rw [rounds_succ]
  go_wp2_with fail
  refine (HR1.out _ HC3.out.bel).mono ?_
  rintro e w4 ⟨rfl, hb⟩
  have HC4 := Lib.hid (HC3.out.below hb)
  clear HC3 hb
  go_wp2_with fail
  refine (HG1.out _).mono ?_
  rintro e w5 ⟨rfl, hb⟩
  obtain ⟨hC, hM, hz⟩ := (HC4.out.below hb).got c0 c1 c2 c3
  have hs5 : w.heap.size + 1 < w5.heap.size := (HC4.out.below hb).siz
  clear HC4 hb hz
  have HC6 := Lib.hid hC
  have HM := Lib.hid hM
  clear hC hM
  go_upto_region 9 with fail
  change Code.wp _ _ _ _ (w5.alloc (.cells #[.int .i64 c0, .int .i64 c1, .int .i64 c2, .int .i64 c3] 23))
  generalize w5.alloc (.cells #[.int .i64 c0, .int .i64 c1, .int .i64 c2, .int .i64 c3] 23) = w6 at *
  obtain ⟨⟨m0, m1, m2, m3⟩, -⟩ := HM.out.four
  obtain ⟨⟨q0, q1, q2, q3⟩, f0, f1, f2, f3⟩ := HC6.out.new.four
  go_wp2_with fail
  clear m0 m1 m2 m3 q0 q1 q2 q3 f0 f1 f2 f3 HM
  have HC7 := Lib.hid (HC6.out.take c0 c1 c2 c3)
  change Code.rounds _ _ _ _ _ (metaSet w6 (w.heap.size + 1) c0 c1 c2 c3)
  generalize metaSet w6 (w.heap.size + 1) c0 c1 c2 c3 = w7 at *
  rw [rounds_succ]
  obtain ⟨⟨q0, q1, q2, q3⟩, f0, f1, f2, f3⟩ := HC7.out.new.four
  obtain ⟨⟨p0, p1, p2, p3⟩, g0, g1, g2, g3⟩ := HC7.out.ans.four
  go_wp2_with fail
  clear q0 q1 q2 q3 f0 f1 f2 f3 p0 p1 p2 p3 g0 g1 g2 g3
  change bodyPost _ _ _ _ _ (metaSet w7 w.heap.size c0 c1 c2 c3)
  obtain ⟨hh, hb⟩ := HC7.out.done c0 c1 c2 c3
  obtain ⟨⟨k0, k1, k2, k3⟩, -⟩ := hh.four
  clear hh
  generalize metaSet w7 w.heap.size c0 c1 c2 c3 = wz at *
  exact bodyPost_ret (v := .tuple #[.agg #[.int .i64 c0, .int .i64 c1, .int .i64 c2, .int .i64 c3], .int .i64 0]) (by simp [results, Tryd.results18, go_sem, k0, k1, k2, k3]) rfl ⟨rfl, hb⟩

set_option maxRecDepth 100000 in
set_option maxHeartbeats 4000000 in
theorem cho_none (P : Value) (b0 b1 : ByteArray) (a0 a1 a2 a3 c0 c1 c2 c3 E0 E1 : Int) (w : World) (hR0 : ReadTo P w 0 b0 0) (hR1 : ReadTo P w 1 b1 0) (hG0 : GetTo 0 b0 0 0 0 0 E0) (hE0 : (E0 != 0) = true) (hG1 : GetTo 1 b1 0 0 0 0 E1) (hE1 : (E1 != 0) = true) :
    Calls Tryd.prog 18 #[P] w fun e w' => e = .returned (.tuple #[.agg #[.int .i64 0, .int .i64 0, .int .i64 0, .int .i64 0], .int .i64 15]) ∧ Below w.heap.size w w' := by
  have HR0 := Lib.hid hR0
  have HR1 := Lib.hid hR1
  have HG0 := Lib.hid hG0
  have HG1 := Lib.hid hG1
  have HC0 := Lib.hid (ChoAt.begin w)
  clear hR0 hR1 hG0 hG1
  go_enter Tryd.func18, Tryd.ntmps18
  go_wp2_with fail
  refine wp_loop_rounds 3 ?_
  rw [rounds_succ]
  go_wp2_with fail
  refine (HR0.out _ HC0.out.bel).mono ?_
  rintro e w1 ⟨rfl, hb⟩
  have HC1 := Lib.hid (HC0.out.below hb)
  clear HC0 hb
  go_wp2_with fail
  refine (HG0.out _).mono ?_
  rintro e w2 ⟨rfl, hb⟩
  have HC3 := Lib.hid ((HC1.out.below hb).more)
  clear HC1 hb
  go_upto_region 9 with fail
  change Code.wp _ _ _ _ (w2.alloc metaZ)
  generalize w2.alloc metaZ = w3 at *
  go_wp2_with fail
  rw [rounds_succ]
  go_wp2_with fail
  refine (HR1.out _ HC3.out.bel).mono ?_
  rintro e w4 ⟨rfl, hb⟩
  have HC4 := Lib.hid (HC3.out.below hb)
  clear HC3 hb
  go_wp2_with fail
  refine (HG1.out _).mono ?_
  rintro e w5 ⟨rfl, hb⟩
  have HC6 := Lib.hid ((HC4.out.below hb).more)
  clear HC4 hb
  go_upto_region 9 with fail
  change Code.wp _ _ _ _ (w5.alloc metaZ)
  generalize w5.alloc metaZ = w6 at *
  go_wp2_with fail
  rw [rounds_succ]
  obtain ⟨⟨q0, q1, q2, q3⟩, f0, f1, f2, f3⟩ := HC6.out.new.four
  obtain ⟨⟨p0, p1, p2, p3⟩, g0, g1, g2, g3⟩ := HC6.out.ans.four
  go_wp2_with fail
  clear q0 q1 q2 q3 f0 f1 f2 f3 p0 p1 p2 p3 g0 g1 g2 g3
  change bodyPost _ _ _ _ _ (metaSet w6 w.heap.size 0 0 0 0)
  obtain ⟨hh, hb⟩ := HC6.out.done 0 0 0 0
  obtain ⟨⟨k0, k1, k2, k3⟩, -⟩ := hh.four
  clear hh
  generalize metaSet w6 w.heap.size 0 0 0 0 = wz at *
  exact bodyPost_ret (v := .tuple #[.agg #[.int .i64 0, .int .i64 0, .int .i64 0, .int .i64 0], .int .i64 15]) (by simp [results, Tryd.results18, go_sem, k0, k1, k2, k3]) rfl ⟨rfl, hb⟩

set_option maxRecDepth 100000 in
set_option maxHeartbeats 4000000 in
theorem cho_off (P : Value) (b0 b1 : ByteArray) (a0 a1 a2 a3 c0 c1 c2 c3 E0 E1 : Int) (w : World) (hR0 : ReadTo P w 0 b0 E0) (hE0 : (E0 != 0) = true) :
    Calls Tryd.prog 18 #[P] w fun e w' => e = .returned (.tuple #[.agg #[.int .i64 0, .int .i64 0, .int .i64 0, .int .i64 0], .int .i64 E0]) ∧ Below w.heap.size w w' := by
  have HR0 := Lib.hid hR0
  have HC0 := Lib.hid (ChoAt.begin w)
  clear hR0
  go_enter Tryd.func18, Tryd.ntmps18
  go_wp2_with fail
  refine wp_loop_rounds 3 ?_
  rw [rounds_succ]
  go_wp2_with fail
  refine (HR0.out _ HC0.out.bel).mono ?_
  rintro e w1 ⟨rfl, hb⟩
  have HC1 := Lib.hid (HC0.out.below hb)
  clear HC0 hb
  obtain ⟨⟨q0, q1, q2, q3⟩, f0, f1, f2, f3⟩ := HC1.out.new.four
  obtain ⟨⟨p0, p1, p2, p3⟩, g0, g1, g2, g3⟩ := HC1.out.ans.four
  go_wp2_with fail
  clear q0 q1 q2 q3 f0 f1 f2 f3 p0 p1 p2 p3 g0 g1 g2 g3
  change bodyPost _ _ _ _ _ (metaSet w1 w.heap.size 0 0 0 0)
  obtain ⟨hh, hb⟩ := HC1.out.done 0 0 0 0
  obtain ⟨⟨k0, k1, k2, k3⟩, -⟩ := hh.four
  clear hh
  generalize metaSet w1 w.heap.size 0 0 0 0 = wz at *
  exact bodyPost_ret (v := .tuple #[.agg #[.int .i64 0, .int .i64 0, .int .i64 0, .int .i64 0], .int .i64 E0]) (by simp [results, Tryd.results18, go_sem, k0, k1, k2, k3]) rfl ⟨rfl, hb⟩

set_option maxRecDepth 100000 in
set_option maxHeartbeats 4000000 in
theorem cho_off1 (P : Value) (b0 b1 : ByteArray) (a0 a1 a2 a3 c0 c1 c2 c3 E0 E1 : Int) (w : World) (hR0 : ReadTo P w 0 b0 0) (hG0 : GetTo 0 b0 a0 a1 a2 a3 0) (hR1 : ReadTo P w 1 b1 E1) (hE1 : (E1 != 0) = true) :
    Calls Tryd.prog 18 #[P] w fun e w' => e = .returned (.tuple #[.agg #[.int .i64 0, .int .i64 0, .int .i64 0, .int .i64 0], .int .i64 E1]) ∧ Below w.heap.size w w' := by
  have HR0 := Lib.hid hR0
  have HR1 := Lib.hid hR1
  have HG0 := Lib.hid hG0
  have HC0 := Lib.hid (ChoAt.begin w)
  clear hR0 hR1 hG0
  go_enter Tryd.func18, Tryd.ntmps18
  go_wp2_with fail
  refine wp_loop_rounds 3 ?_
  rw [rounds_succ]
  go_wp2_with fail
  refine (HR0.out _ HC0.out.bel).mono ?_
  rintro e w1 ⟨rfl, hb⟩
  have HC1 := Lib.hid (HC0.out.below hb)
  clear HC0 hb
  go_wp2_with fail
  refine (HG0.out _).mono ?_
  rintro e w2 ⟨rfl, hb⟩
  obtain ⟨hC, hM, hz⟩ := (HC1.out.below hb).got a0 a1 a2 a3
  have hs2 : w.heap.size + 1 < w2.heap.size := (HC1.out.below hb).siz
  clear HC1 hb hz
  have HC3 := Lib.hid hC
  have HM := Lib.hid hM
  clear hC hM
  go_upto_region 9 with fail
  change Code.wp _ _ _ _ (w2.alloc (.cells #[.int .i64 a0, .int .i64 a1, .int .i64 a2, .int .i64 a3] 23))
  generalize w2.alloc (.cells #[.int .i64 a0, .int .i64 a1, .int .i64 a2, .int .i64 a3] 23) = w3 at *
  obtain ⟨⟨m0, m1, m2, m3⟩, -⟩ := HM.out.four
  obtain ⟨⟨q0, q1, q2, q3⟩, f0, f1, f2, f3⟩ := HC3.out.new.four
  go_wp2_with fail
  clear m0 m1 m2 m3 q0 q1 q2 q3 f0 f1 f2 f3 HM
  have HC4 := Lib.hid (HC3.out.take a0 a1 a2 a3)
  change Code.rounds _ _ _ _ _ (metaSet w3 (w.heap.size + 1) a0 a1 a2 a3)
  generalize metaSet w3 (w.heap.size + 1) a0 a1 a2 a3 = w4 at *
  rw [rounds_succ]
  go_wp2_with fail
  refine (HR1.out _ HC4.out.bel).mono ?_
  rintro e w5 ⟨rfl, hb⟩
  have HC5 := Lib.hid (HC4.out.below hb)
  clear HC4 hb
  obtain ⟨⟨q0, q1, q2, q3⟩, f0, f1, f2, f3⟩ := HC5.out.new.four
  obtain ⟨⟨p0, p1, p2, p3⟩, g0, g1, g2, g3⟩ := HC5.out.ans.four
  go_wp2_with fail
  clear q0 q1 q2 q3 f0 f1 f2 f3 p0 p1 p2 p3 g0 g1 g2 g3
  change bodyPost _ _ _ _ _ (metaSet w5 w.heap.size 0 0 0 0)
  obtain ⟨hh, hb⟩ := HC5.out.done 0 0 0 0
  obtain ⟨⟨k0, k1, k2, k3⟩, -⟩ := hh.four
  clear hh
  generalize metaSet w5 w.heap.size 0 0 0 0 = wz at *
  exact bodyPost_ret (v := .tuple #[.agg #[.int .i64 0, .int .i64 0, .int .i64 0, .int .i64 0], .int .i64 E1]) (by simp [results, Tryd.results18, go_sem, k0, k1, k2, k3]) rfl ⟨rfl, hb⟩

set_option maxRecDepth 100000 in
set_option maxHeartbeats 4000000 in
theorem cho_off2 (P : Value) (b0 b1 : ByteArray) (a0 a1 a2 a3 c0 c1 c2 c3 E0 E1 : Int) (w : World) (hR0 : ReadTo P w 0 b0 0) (hG0 : GetTo 0 b0 0 0 0 0 E0) (hE0 : (E0 != 0) = true) (hR1 : ReadTo P w 1 b1 E1) (hE1 : (E1 != 0) = true) :
    Calls Tryd.prog 18 #[P] w fun e w' => e = .returned (.tuple #[.agg #[.int .i64 0, .int .i64 0, .int .i64 0, .int .i64 0], .int .i64 E1]) ∧ Below w.heap.size w w' := by
  have HR0 := Lib.hid hR0
  have HR1 := Lib.hid hR1
  have HG0 := Lib.hid hG0
  have HC0 := Lib.hid (ChoAt.begin w)
  clear hR0 hR1 hG0
  go_enter Tryd.func18, Tryd.ntmps18
  go_wp2_with fail
  refine wp_loop_rounds 3 ?_
  rw [rounds_succ]
  go_wp2_with fail
  refine (HR0.out _ HC0.out.bel).mono ?_
  rintro e w1 ⟨rfl, hb⟩
  have HC1 := Lib.hid (HC0.out.below hb)
  clear HC0 hb
  go_wp2_with fail
  refine (HG0.out _).mono ?_
  rintro e w2 ⟨rfl, hb⟩
  have HC3 := Lib.hid ((HC1.out.below hb).more)
  clear HC1 hb
  go_upto_region 9 with fail
  change Code.wp _ _ _ _ (w2.alloc metaZ)
  generalize w2.alloc metaZ = w3 at *
  go_wp2_with fail
  rw [rounds_succ]
  go_wp2_with fail
  refine (HR1.out _ HC3.out.bel).mono ?_
  rintro e w4 ⟨rfl, hb⟩
  have HC4 := Lib.hid (HC3.out.below hb)
  clear HC3 hb
  obtain ⟨⟨q0, q1, q2, q3⟩, f0, f1, f2, f3⟩ := HC4.out.new.four
  obtain ⟨⟨p0, p1, p2, p3⟩, g0, g1, g2, g3⟩ := HC4.out.ans.four
  go_wp2_with fail
  clear q0 q1 q2 q3 f0 f1 f2 f3 p0 p1 p2 p3 g0 g1 g2 g3
  change bodyPost _ _ _ _ _ (metaSet w4 w.heap.size 0 0 0 0)
  obtain ⟨hh, hb⟩ := HC4.out.done 0 0 0 0
  obtain ⟨⟨k0, k1, k2, k3⟩, -⟩ := hh.four
  clear hh
  generalize metaSet w4 w.heap.size 0 0 0 0 = wz at *
  exact bodyPost_ret (v := .tuple #[.agg #[.int .i64 0, .int .i64 0, .int .i64 0, .int .i64 0], .int .i64 E1]) (by simp [results, Tryd.results18, go_sem, k0, k1, k2, k3]) rfl ⟨rfl, hb⟩

end Go.Proofs.YthcpjpebahiikaaDoor
