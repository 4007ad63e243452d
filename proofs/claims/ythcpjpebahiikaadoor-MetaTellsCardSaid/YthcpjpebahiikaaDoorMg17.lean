/-
  Walks over package meta: Write, and Choose. Walks over package meta: what Choose answers of any device, and Write. The document's own answers of chapter 5: Choose, of two pages. A device of two pages that metas are written to: what each call leaves. The statements of chapter 5: a first call whose answer the document fixes.
-/
import Derived.Test.YthcpjpebahiikaaDoorMg8
import Derived.Test.YthcpjpebahiikaaDoorMg16
import Derived.Deep.Cut
import Derived.Test.YthcpjpebahiikaaDoorMg5
import Derived.Test.YthcpjpebahiikaaDoorMg12
namespace Go.Proofs.YthcpjpebahiikaaDoor
open Go.RowKit Go.Lib

/-- What a page is read as by a device whose call is P, from world w on. -/
def ReadTo (P : Value) (w : World) (i : Int) (b : ByteArray) (E : Int) : Prop :=
  ∀ w' : World, Below w.heap.size w w' → Calls Tryd.prog 36 #[P, .int .i64 i] w' fun e w'' => e = .returned (.tuple #[.string b, .int .i64 E]) ∧ Below w'.heap.size w' w''
def GetTo (i : Int) (b : ByteArray) (t r f p E : Int) : Prop :=
  ∀ w' : World, Calls Tryd.prog 9 #[.int .i64 i, .string b] w' fun e w'' => e = .returned (.tuple #[.agg #[.int .i64 t, .int .i64 r, .int .i64 f, .int .i64 p], .int .i64 E]) ∧ Below w'.heap.size w' w''

/-- Where Choose stands: the answer's place, and the newest meta's. -/
structure ChoAt (w W : World) (n0 n1 n2 n3 : Int) : Prop where
  ans : Has W w.heap.size 23 #[.int .i64 0, .int .i64 0, .int .i64 0, .int .i64 0]
  new : Has W (w.heap.size + 1) 23 #[.int .i64 n0, .int .i64 n1, .int .i64 n2, .int .i64 n3]
  bel : Below w.heap.size w W
  siz : w.heap.size + 2 ≤ W.heap.size
abbrev metaZ : Obj := .cells #[.int .i64 0, .int .i64 0, .int .i64 0, .int .i64 0] 23
theorem ChoAt.begin (w : World) : ChoAt w ((w.alloc metaZ).alloc metaZ) 0 0 0 0 :=
  ⟨(Has.made w _ _).alloc _, by simpa using Has.made (w.alloc metaZ) 23 #[.int .i64 0, .int .i64 0, .int .i64 0, .int .i64 0], ((Below.refl _ _).alloc (Nat.le_refl _) _).alloc (by simp) _, by simp⟩
section
variable {w W W' : World} {n0 n1 n2 n3 : Int}
theorem ChoAt.below (h : ChoAt w W n0 n1 n2 n3) (hb : Below W.heap.size W W') : ChoAt w W' n0 n1 n2 n3 :=
  have := h.siz
  ⟨h.ans.below hb (by omega), h.new.below hb (by omega), h.bel.trans (hb.mono (by omega)), Nat.le_trans h.siz hb.size⟩
theorem ChoAt.got (h : ChoAt w W n0 n1 n2 n3) (a0 a1 a2 a3 : Int) : ChoAt w (W.alloc (.cells #[.int .i64 a0, .int .i64 a1, .int .i64 a2, .int .i64 a3] 23)) n0 n1 n2 n3 ∧ Has (W.alloc (.cells #[.int .i64 a0, .int .i64 a1, .int .i64 a2, .int .i64 a3] 23)) W.heap.size 23 #[.int .i64 a0, .int .i64 a1, .int .i64 a2, .int .i64 a3] ∧
    (W.alloc (.cells #[.int .i64 a0, .int .i64 a1, .int .i64 a2, .int .i64 a3] 23)).heap.size = W.heap.size + 1 := by
  have := h.siz
  exact ⟨h.below ((Below.refl _ _).alloc (Nat.le_refl _) _), Has.made W _ _, by simp⟩
theorem ChoAt.more (h : ChoAt w W n0 n1 n2 n3) : ChoAt w (W.alloc metaZ) n0 n1 n2 n3 := h.below ((Below.refl _ _).alloc (Nat.le_refl _) _)
theorem ChoAt.take (h : ChoAt w W n0 n1 n2 n3) (a0 a1 a2 a3 : Int) : ChoAt w (metaSet W (w.heap.size + 1) a0 a1 a2 a3) a0 a1 a2 a3 :=
  ⟨h.ans.metaSet_past (by omega) _ _ _ _, h.new.metaSet _ _ _ _, metaSet_below h.bel (by omega) _ _ _ _, by rw [metaSet_size]; exact h.siz⟩
theorem ChoAt.done (h : ChoAt w W n0 n1 n2 n3) (a0 a1 a2 a3 : Int) : Has (metaSet W w.heap.size a0 a1 a2 a3) w.heap.size 23 #[.int .i64 a0, .int .i64 a1, .int .i64 a2, .int .i64 a3] ∧ Below w.heap.size w (metaSet W w.heap.size a0 a1 a2 a3) :=
  ⟨h.ans.metaSet _ _ _ _, metaSet_below h.bel (Nat.le_refl _) _ _ _ _⟩
end


set_option maxRecDepth 100000 in
set_option maxHeartbeats 4000000 in
theorem cho_both (P : Value) (b0 b1 : ByteArray) (a0 a1 a2 a3 c0 c1 c2 c3 E0 E1 : Int) (w : World) (hR0 : ReadTo P w 0 b0 0) (hR1 : ReadTo P w 1 b1 0) (hG0 : GetTo 0 b0 a0 a1 a2 a3 0) (hG1 : GetTo 1 b1 c0 c1 c2 c3 0) (hlt : decide (a0 < c0) = true) :
    Calls Tryd.prog 18 #[P] w fun e w' => e = .returned (.tuple #[.agg #[.int .i64 c0, .int .i64 c1, .int .i64 c2, .int .i64 c3], .int .i64 0]) ∧ Below w.heap.size w w' := by
  have HR0 := Lib.hid hR0
  have HR1 := Lib.hid hR1
  have HG0 := Lib.hid hG0
  have HG1 := Lib.hid hG1
  have HC0 := Lib.hid (ChoAt.begin w)
  clear hR0 hR1 hG0 hG1
  go_enter Tryd.func18, Tryd.ntmps18
  go_wp2_with fail
  refine wp_loop_rounds 3 ?_
  rw [rounds_succ]
  go_wp2_with fail
  refine (HR0.out _ HC0.out.bel).mono ?_
  rintro e w1 ⟨rfl, hb⟩
  have HC1 := Lib.hid (HC0.out.below hb)
  clear HC0 hb
  go_wp2_with fail
  refine (HG0.out _).mono ?_
  rintro e w2 ⟨rfl, hb⟩
  obtain ⟨hC, hM, hz⟩ := (HC1.out.below hb).got a0 a1 a2 a3
  have hs2 : w.heap.size + 1 < w2.heap.size := (HC1.out.below hb).siz
  clear HC1 hb hz
  have HC3 := Lib.hid hC
  have HM := Lib.hid hM
  clear hC hM
  go_upto_region 9 with fail
  change Code.wp _ _ _ _ (w2.alloc (.cells #[.int .i64 a0, .int .i64 a1, .int .i64 a2, .int .i64 a3] 23))
  generalize w2.alloc (.cells #[.int .i64 a0, .int .i64 a1, .int .i64 a2, .int .i64 a3] 23) = w3 at *
  obtain ⟨⟨m0, m1, m2, m3⟩, -⟩ := HM.out.four
  obtain ⟨⟨q0, q1, q2, q3⟩, f0, f1, f2, f3⟩ := HC3.out.new.four
  go_wp2_with fail
  clear m0 m1 m2 m3 q0 q1 q2 q3 f0 f1 f2 f3 HM
  have HC4 := Lib.hid (HC3.out.take a0 a1 a2 a3)
  change Code.rounds _ _ _ _ _ (metaSet w3 (w.heap.size + 1) a0 a1 a2 a3)
  generalize metaSet w3 (w.heap.size + 1) a0 a1 a2 a3 = w4 at *
  rw [rounds_succ]
  go_wp2_with fail
  refine (HR1.out _ HC4.out.bel).mono ?_
  rintro e w5 ⟨rfl, hb⟩
  have HC5 := Lib.hid (HC4.out.below hb)
  clear HC4 hb
  go_wp2_with fail
  refine (HG1.out _).mono ?_
  rintro e w6 ⟨rfl, hb⟩
  obtain ⟨hC, hM, hz⟩ := (HC5.out.below hb).got c0 c1 c2 c3
  have hs6 : w.heap.size + 1 < w6.heap.size := (HC5.out.below hb).siz
  clear HC5 hb hz
  have HC7 := Lib.hid hC
  have HM := Lib.hid hM
  clear hC hM
  go_upto_region 9 with fail
  change Code.wp _ _ _ _ (w6.alloc (.cells #[.int .i64 c0, .int .i64 c1, .int .i64 c2, .int .i64 c3] 23))
  generalize w6.alloc (.cells #[.int .i64 c0, .int .i64 c1, .int .i64 c2, .int .i64 c3] 23) = w7 at *
  obtain ⟨⟨m0, m1, m2, m3⟩, -⟩ := HM.out.four
  obtain ⟨⟨q0, q1, q2, q3⟩, f0, f1, f2, f3⟩ := HC7.out.new.four
  go_wp2_with fail
  clear m0 m1 m2 m3 q0 q1 q2 q3 f0 f1 f2 f3 HM
  have HC8 := Lib.hid (HC7.out.take c0 c1 c2 c3)
  change Code.rounds _ _ _ _ _ (metaSet w7 (w.heap.size + 1) c0 c1 c2 c3)
  generalize metaSet w7 (w.heap.size + 1) c0 c1 c2 c3 = w8 at *
  rw [rounds_succ]
  obtain ⟨⟨q0, q1, q2, q3⟩, f0, f1, f2, f3⟩ := HC8.out.new.four
  obtain ⟨⟨p0, p1, p2, p3⟩, g0, g1, g2, g3⟩ := HC8.out.ans.four
  go_wp2_with fail
  clear q0 q1 q2 q3 f0 f1 f2 f3 p0 p1 p2 p3 g0 g1 g2 g3
  change bodyPost _ _ _ _ _ (metaSet w8 w.heap.size c0 c1 c2 c3)
  obtain ⟨hh, hb⟩ := HC8.out.done c0 c1 c2 c3
  obtain ⟨⟨k0, k1, k2, k3⟩, -⟩ := hh.four
  clear hh
  generalize metaSet w8 w.heap.size c0 c1 c2 c3 = wz at *
  exact bodyPost_ret (v := .tuple #[.agg #[.int .i64 c0, .int .i64 c1, .int .i64 c2, .int .i64 c3], .int .i64 0]) (by simp [results, Tryd.results18, go_sem, k0, k1, k2, k3]) rfl ⟨rfl, hb⟩

set_option maxRecDepth 100000 in
set_option maxHeartbeats 4000000 in
theorem cho_keep (P : Value) (b0 b1 : ByteArray) (a0 a1 a2 a3 c0 c1 c2 c3 E0 E1 : Int) (w : World) (hR0 : ReadTo P w 0 b0 0) (hR1 : ReadTo P w 1 b1 0) (hG0 : GetTo 0 b0 a0 a1 a2 a3 0) (hG1 : GetTo 1 b1 c0 c1 c2 c3 0) (hlt : decide (a0 < c0) = false) :
    Calls Tryd.prog 18 #[P] w fun e w' => e = .returned (.tuple #[.agg #[.int .i64 a0, .int .i64 a1, .int .i64 a2, .int .i64 a3], .int .i64 0]) ∧ Below w.heap.size w w' := by
  have HR0 := Lib.hid hR0
  have HR1 := Lib.hid hR1
  have HG0 := Lib.hid hG0
  have HG1 := Lib.hid hG1
  have HC0 := Lib.hid (ChoAt.begin w)
  clear hR0 hR1 hG0 hG1
  go_enter Tryd.func18, Tryd.ntmps18
  go_wp2_with fail
  refine wp_loop_rounds 3 ?_
  rw [rounds_succ]
  go_wp2_with fail
  refine (HR0.out _ HC0.out.bel).mono ?_
  rintro e w1 ⟨rfl, hb⟩
  have HC1 := Lib.hid (HC0.out.below hb)
  clear HC0 hb
  go_wp2_with fail
  refine (HG0.out _).mono ?_
  rintro e w2 ⟨rfl, hb⟩
  obtain ⟨hC, hM, hz⟩ := (HC1.out.below hb).got a0 a1 a2 a3
  have hs2 : w.heap.size + 1 < w2.heap.size := (HC1.out.below hb).siz
  clear HC1 hb hz
  have HC3 := Lib.hid hC
  have HM := Lib.hid hM
  clear hC hM
  go_upto_region 9 with fail
  change Code.wp _ _ _ _ (w2.alloc (.cells #[.int .i64 a0, .int .i64 a1, .int .i64 a2, .int .i64 a3] 23))
  generalize w2.alloc (.cells #[.int .i64 a0, .int .i64 a1, .int .i64 a2, .int .i64 a3] 23) = w3 at *
  obtain ⟨⟨m0, m1, m2, m3⟩, -⟩ := HM.out.four
  obtain ⟨⟨q0, q1, q2, q3⟩, f0, f1, f2, f3⟩ := HC3.out.new.four
  go_wp2_with fail
  clear m0 m1 m2 m3 q0 q1 q2 q3 f0 f1 f2 f3 HM
  have HC4 := Lib.hid (HC3.out.take a0 a1 a2 a3)
  change Code.rounds _ _ _ _ _ (metaSet w3 (w.heap.size + 1) a0 a1 a2 a3)
  generalize metaSet w3 (w.heap.size + 1) a0 a1 a2 a3 = w4 at *
  rw [rounds_succ]
  go_wp2_with fail
  refine (HR1.out _ HC4.out.bel).mono ?_
  rintro e w5 ⟨rfl, hb⟩
  have HC5 := Lib.hid (HC4.out.below hb)
  clear HC4 hb
  go_wp2_with fail
  refine (HG1.out _).mono ?_
  rintro e w6 ⟨rfl, hb⟩
  obtain ⟨hC, hM, hz⟩ := (HC5.out.below hb).got c0 c1 c2 c3
  have hs6 : w.heap.size + 1 < w6.heap.size := (HC5.out.below hb).siz
  clear HC5 hb hz
  have HC7 := Lib.hid hC
  have HM := Lib.hid hM
  clear hC hM
  go_upto_region 9 with fail
  change Code.wp _ _ _ _ (w6.alloc (.cells #[.int .i64 c0, .int .i64 c1, .int .i64 c2, .int .i64 c3] 23))
  generalize w6.alloc (.cells #[.int .i64 c0, .int .i64 c1, .int .i64 c2, .int .i64 c3] 23) = w7 at *
  obtain ⟨⟨m0, m1, m2, m3⟩, -⟩ := HM.out.four
  obtain ⟨⟨q0, q1, q2, q3⟩, f0, f1, f2, f3⟩ := HC7.out.new.four
  go_wp2_with fail
  clear m0 m1 m2 m3 q0 q1 q2 q3 f0 f1 f2 f3 HM
  rw [rounds_succ]
  obtain ⟨⟨q0, q1, q2, q3⟩, f0, f1, f2, f3⟩ := HC7.out.new.four
  obtain ⟨⟨p0, p1, p2, p3⟩, g0, g1, g2, g3⟩ := HC7.out.ans.four
  go_wp2_with fail
  clear q0 q1 q2 q3 f0 f1 f2 f3 p0 p1 p2 p3 g0 g1 g2 g3
  change bodyPost _ _ _ _ _ (metaSet w7 w.heap.size a0 a1 a2 a3)
  obtain ⟨hh, hb⟩ := HC7.out.done a0 a1 a2 a3
  obtain ⟨⟨k0, k1, k2, k3⟩, -⟩ := hh.four
  clear hh
  generalize metaSet w7 w.heap.size a0 a1 a2 a3 = wz at *
  exact bodyPost_ret (v := .tuple #[.agg #[.int .i64 a0, .int .i64 a1, .int .i64 a2, .int .i64 a3], .int .i64 0]) (by simp [results, Tryd.results18, go_sem, k0, k1, k2, k3]) rfl ⟨rfl, hb⟩

set_option maxRecDepth 100000 in
set_option maxHeartbeats 4000000 in
theorem cho_first (P : Value) (b0 b1 : ByteArray) (a0 a1 a2 a3 c0 c1 c2 c3 E0 E1 : Int) (w : World) (hR0 : ReadTo P w 0 b0 0) (hR1 : ReadTo P w 1 b1 0) (hG0 : GetTo 0 b0 a0 a1 a2 a3 0) (hG1 : GetTo 1 b1 0 0 0 0 E1) (hE1 : (E1 != 0) = true) :
    Calls Tryd.prog 18 #[P] w fun e w' => e = .returned (.tuple #[.agg #[.int .i64 a0, .int .i64 a1, .int .i64 a2, .int .i64 a3], .int .i64 0]) ∧ Below w.heap.size w w' := by
  have HR0 := Lib.hid hR0
  have HR1 := Lib.hid hR1
  have HG0 := Lib.hid hG0
  have HG1 := Lib.hid hG1
  have HC0 := Lib.hid (ChoAt.begin w)
  clear hR0 hR1 hG0 hG1
  go_enter Tryd.func18, Tryd.ntmps18
  go_wp2_with fail
  refine wp_loop_rounds 3 ?_
  rw [rounds_succ]
  go_wp2_with fail
  refine (HR0.out _ HC0.out.bel).mono ?_
  rintro e w1 ⟨rfl, hb⟩
  have HC1 := Lib.hid (HC0.out.below hb)
  clear HC0 hb
  go_wp2_with fail
  refine (HG0.out _).mono ?_
  rintro e w2 ⟨rfl, hb⟩
  obtain ⟨hC, hM, hz⟩ := (HC1.out.below hb).got a0 a1 a2 a3
  have hs2 : w.heap.size + 1 < w2.heap.size := (HC1.out.below hb).siz
  clear HC1 hb hz
  have HC3 := Lib.hid hC
  have HM := Lib.hid hM
  clear hC hM
  go_upto_region 9 with fail
  change Code.wp _ _ _ _ (w2.alloc (.cells #[.int .i64 a0, .int .i64 a1, .int .i64 a2, .int .i64 a3] 23))
  generalize w2.alloc (.cells #[.int .i64 a0, .int .i64 a1, .int .i64 a2, .int .i64 a3] 23) = w3 at *
  obtain ⟨⟨m0, m1, m2, m3⟩, -⟩ := HM.out.four
  obtain ⟨⟨q0, q1, q2, q3⟩, f0, f1, f2, f3⟩ := HC3.out.new.four
  go_wp2_with fail
  clear m0 m1 m2 m3 q0 q1 q2 q3 f0 f1 f2 f3 HM
  have HC4 := Lib.hid (HC3.out.take a0 a1 a2 a3)
  change Code.rounds _ _ _ _ _ (metaSet w3 (w.heap.size + 1) a0 a1 a2 a3)
  generalize metaSet w3 (w.heap.size + 1) a0 a1 a2 a3 = w4 at *
  rw [rounds_succ]
  go_wp2_with fail
  refine (HR1.out _ HC4.out.bel).mono ?_
  rintro e w5 ⟨rfl, hb⟩
  have HC5 := Lib.hid (HC4.out.below hb)
  clear HC4 hb
  go_wp2_with fail
  refine (HG1.out _).mono ?_
  rintro e w6 ⟨rfl, hb⟩
  have HC7 := Lib.hid ((HC5.out.below hb).more)
  clear HC5 hb
  go_upto_region 9 with fail
  change Code.wp _ _ _ _ (w6.alloc metaZ)
  generalize w6.alloc metaZ = w7 at *
  go_wp2_with fail
  rw [rounds_succ]
  obtain ⟨⟨q0, q1, q2, q3⟩, f0, f1, f2, f3⟩ := HC7.out.new.four
  obtain ⟨⟨p0, p1, p2, p3⟩, g0, g1, g2, g3⟩ := HC7.out.ans.four
  go_wp2_with fail
  clear q0 q1 q2 q3 f0 f1 f2 f3 p0 p1 p2 p3 g0 g1 g2 g3
  change bodyPost _ _ _ _ _ (metaSet w7 w.heap.size a0 a1 a2 a3)
  obtain ⟨hh, hb⟩ := HC7.out.done a0 a1 a2 a3
  obtain ⟨⟨k0, k1, k2, k3⟩, -⟩ := hh.four
  clear hh
  generalize metaSet w7 w.heap.size a0 a1 a2 a3 = wz at *
  exact bodyPost_ret (v := .tuple #[.agg #[.int .i64 a0, .int .i64 a1, .int .i64 a2, .int .i64 a3], .int .i64 0]) (by simp [results, Tryd.results18, go_sem, k0, k1, k2, k3]) rfl ⟨rfl, hb⟩

set_option maxRecDepth 100000 in
set_option maxHeartbeats 4000000 in
theorem cho_second (P : Value) (b0 b1 : ByteArray) (a0 a1 a2 a3 c0 c1 c2 c3 E0 E1 : Int) (w : World) (hR0 : ReadTo P w 0 b0 0) (hR1 : ReadTo P w 1 b1 0) (hG0 : GetTo 0 b0 0 0 0 0 E0) (hE0 : (E0 != 0) = true) (hG1 : GetTo 1 b1 c0 c1 c2 c3 0) :
    Calls Tryd.prog 18 #[P] w fun e w' => e = .returned (.tuple #[.agg #[.int .i64 c0, .int .i64 c1, .int .i64 c2, .int .i64 c3], .int .i64 0]) ∧ Below w.heap.size w w' := by
  have HR0 := Lib.hid hR0
  have HR1 := Lib.hid hR1
  have HG0 := Lib.hid hG0
  have HG1 := Lib.hid hG1
  have HC0 := Lib.hid (ChoAt.begin w)
  clear hR0 hR1 hG0 hG1
  go_enter Tryd.func18, Tryd.ntmps18
  go_wp2_with fail
  refine wp_loop_rounds 3 ?_
  rw [rounds_succ]
  go_wp2_with fail
  refine (HR0.out _ HC0.out.bel).mono ?_
  rintro e w1 ⟨rfl, hb⟩
  have HC1 := Lib.hid (HC0.out.below hb)
  clear HC0 hb
  go_wp2_with fail
  refine (HG0.out _).mono ?_
  rintro e w2 ⟨rfl, hb⟩
  have HC3 := Lib.hid ((HC1.out.below hb).more)
  clear HC1 hb
  go_upto_region 9 with fail
  change Code.wp _ _ _ _ (w2.alloc metaZ)
  generalize w2.alloc metaZ = w3 at *
  go_wp2_with fail
  rw [rounds_succ]
  go_wp2_with fail
  refine (HR1.out _ HC3.out.bel).mono ?_
  rintro e w4 ⟨rfl, hb⟩
  have HC4 := Lib.hid (HC3.out.below hb)
  clear HC3 hb
  go_wp2_with fail
  refine (HG1.out _).mono ?_
  rintro e w5 ⟨rfl, hb⟩
  obtain ⟨hC, hM, hz⟩ := (HC4.out.below hb).got c0 c1 c2 c3
  have hs5 : w.heap.size + 1 < w5.heap.size := (HC4.out.below hb).siz
  clear HC4 hb hz
  have HC6 := Lib.hid hC
  have HM := Lib.hid hM
  clear hC hM
  go_upto_region 9 with fail
  change Code.wp _ _ _ _ (w5.alloc (.cells #[.int .i64 c0, .int .i64 c1, .int .i64 c2, .int .i64 c3] 23))
  generalize w5.alloc (.cells #[.int .i64 c0, .int .i64 c1, .int .i64 c2, .int .i64 c3] 23) = w6 at *
  obtain ⟨⟨m0, m1, m2, m3⟩, -⟩ := HM.out.four
  obtain ⟨⟨q0, q1, q2, q3⟩, f0, f1, f2, f3⟩ := HC6.out.new.four
  go_wp2_with fail
  clear m0 m1 m2 m3 q0 q1 q2 q3 f0 f1 f2 f3 HM
  have HC7 := Lib.hid (HC6.out.take c0 c1 c2 c3)
  change Code.rounds _ _ _ _ _ (metaSet w6 (w.heap.size + 1) c0 c1 c2 c3)
  generalize metaSet w6 (w.heap.size + 1) c0 c1 c2 c3 = w7 at *
  rw [rounds_succ]
  obtain ⟨⟨q0, q1, q2, q3⟩, f0, f1, f2, f3⟩ := HC7.out.new.four
  obtain ⟨⟨p0, p1, p2, p3⟩, g0, g1, g2, g3⟩ := HC7.out.ans.four
  go_wp2_with fail
  clear q0 q1 q2 q3 f0 f1 f2 f3 p0 p1 p2 p3 g0 g1 g2 g3
  change bodyPost _ _ _ _ _ (metaSet w7 w.heap.size c0 c1 c2 c3)
  obtain ⟨hh, hb⟩ := HC7.out.done c0 c1 c2 c3
  obtain ⟨⟨k0, k1, k2, k3⟩, -⟩ := hh.four
  clear hh
  generalize metaSet w7 w.heap.size c0 c1 c2 c3 = wz at *
  exact bodyPost_ret (v := .tuple #[.agg #[.int .i64 c0, .int .i64 c1, .int .i64 c2, .int .i64 c3], .int .i64 0]) (by simp [results, Tryd.results18, go_sem, k0, k1, k2, k3]) rfl ⟨rfl, hb⟩

set_option maxRecDepth 100000 in
set_option maxHeartbeats 4000000 in
theorem cho_none (P : Value) (b0 b1 : ByteArray) (a0 a1 a2 a3 c0 c1 c2 c3 E0 E1 : Int) (w : World) (hR0 : ReadTo P w 0 b0 0) (hR1 : ReadTo P w 1 b1 0) (hG0 : GetTo 0 b0 0 0 0 0 E0) (hE0 : (E0 != 0) = true) (hG1 : GetTo 1 b1 0 0 0 0 E1) (hE1 : (E1 != 0) = true) :
    Calls Tryd.prog 18 #[P] w fun e w' => e = .returned (.tuple #[.agg #[.int .i64 0, .int .i64 0, .int .i64 0, .int .i64 0], .int .i64 15]) ∧ Below w.heap.size w w' := by
  have HR0 := Lib.hid hR0
  have HR1 := Lib.hid hR1
  have HG0 := Lib.hid hG0
  have HG1 := Lib.hid hG1
  have HC0 := Lib.hid (ChoAt.begin w)
  clear hR0 hR1 hG0 hG1
  go_enter Tryd.func18, Tryd.ntmps18
  go_wp2_with fail
  refine wp_loop_rounds 3 ?_
  rw [rounds_succ]
  go_wp2_with fail
  refine (HR0.out _ HC0.out.bel).mono ?_
  rintro e w1 ⟨rfl, hb⟩
  have HC1 := Lib.hid (HC0.out.below hb)
  clear HC0 hb
  go_wp2_with fail
  refine (HG0.out _).mono ?_
  rintro e w2 ⟨rfl, hb⟩
  have HC3 := Lib.hid ((HC1.out.below hb).more)
  clear HC1 hb
  go_upto_region 9 with fail
  change Code.wp _ _ _ _ (w2.alloc metaZ)
  generalize w2.alloc metaZ = w3 at *
  go_wp2_with fail
  rw [rounds_succ]
  go_wp2_with fail
  refine (HR1.out _ HC3.out.bel).mono ?_
  rintro e w4 ⟨rfl, hb⟩
  have HC4 := Lib.hid (HC3.out.below hb)
  clear HC3 hb
  go_wp2_with fail
  refine (HG1.out _).mono ?_
  rintro e w5 ⟨rfl, hb⟩
  have HC6 := Lib.hid ((HC4.out.below hb).more)
  clear HC4 hb
  go_upto_region 9 with fail
  change Code.wp _ _ _ _ (w5.alloc metaZ)
  generalize w5.alloc metaZ = w6 at *
  go_wp2_with fail
  rw [rounds_succ]
  obtain ⟨⟨q0, q1, q2, q3⟩, f0, f1, f2, f3⟩ := HC6.out.new.four
  obtain ⟨⟨p0, p1, p2, p3⟩, g0, g1, g2, g3⟩ := HC6.out.ans.four
  go_wp2_with fail
  clear q0 q1 q2 q3 f0 f1 f2 f3 p0 p1 p2 p3 g0 g1 g2 g3
  change bodyPost _ _ _ _ _ (metaSet w6 w.heap.size 0 0 0 0)
  obtain ⟨hh, hb⟩ := HC6.out.done 0 0 0 0
  obtain ⟨⟨k0, k1, k2, k3⟩, -⟩ := hh.four
  clear hh
  generalize metaSet w6 w.heap.size 0 0 0 0 = wz at *
  exact bodyPost_ret (v := .tuple #[.agg #[.int .i64 0, .int .i64 0, .int .i64 0, .int .i64 0], .int .i64 15]) (by simp [results, Tryd.results18, go_sem, k0, k1, k2, k3]) rfl ⟨rfl, hb⟩

set_option maxRecDepth 100000 in
set_option maxHeartbeats 4000000 in
theorem cho_off (P : Value) (b0 b1 : ByteArray) (a0 a1 a2 a3 c0 c1 c2 c3 E0 E1 : Int) (w : World) (hR0 : ReadTo P w 0 b0 E0) (hE0 : (E0 != 0) = true) :
    Calls Tryd.prog 18 #[P] w fun e w' => e = .returned (.tuple #[.agg #[.int .i64 0, .int .i64 0, .int .i64 0, .int .i64 0], .int .i64 E0]) ∧ Below w.heap.size w w' := by
  have HR0 := Lib.hid hR0
  have HC0 := Lib.hid (ChoAt.begin w)
  clear hR0
  go_enter Tryd.func18, Tryd.ntmps18
  go_wp2_with fail
  refine wp_loop_rounds 3 ?_
  rw [rounds_succ]
  go_wp2_with fail
  refine (HR0.out _ HC0.out.bel).mono ?_
  rintro e w1 ⟨rfl, hb⟩
  have HC1 := Lib.hid (HC0.out.below hb)
  clear HC0 hb
  obtain ⟨⟨q0, q1, q2, q3⟩, f0, f1, f2, f3⟩ := HC1.out.new.four
  obtain ⟨⟨p0, p1, p2, p3⟩, g0, g1, g2, g3⟩ := HC1.out.ans.four
  go_wp2_with fail
  clear q0 q1 q2 q3 f0 f1 f2 f3 p0 p1 p2 p3 g0 g1 g2 g3
  change bodyPost _ _ _ _ _ (metaSet w1 w.heap.size 0 0 0 0)
  obtain ⟨hh, hb⟩ := HC1.out.done 0 0 0 0
  obtain ⟨⟨k0, k1, k2, k3⟩, -⟩ := hh.four
  clear hh
  generalize metaSet w1 w.heap.size 0 0 0 0 = wz at *
  exact bodyPost_ret (v := .tuple #[.agg #[.int .i64 0, .int .i64 0, .int .i64 0, .int .i64 0], .int .i64 E0]) (by simp [results, Tryd.results18, go_sem, k0, k1, k2, k3]) rfl ⟨rfl, hb⟩

set_option maxRecDepth 100000 in
set_option maxHeartbeats 4000000 in
theorem cho_off1 (P : Value) (b0 b1 : ByteArray) (a0 a1 a2 a3 c0 c1 c2 c3 E0 E1 : Int) (w : World) (hR0 : ReadTo P w 0 b0 0) (hG0 : GetTo 0 b0 a0 a1 a2 a3 0) (hR1 : ReadTo P w 1 b1 E1) (hE1 : (E1 != 0) = true) :
    Calls Tryd.prog 18 #[P] w fun e w' => e = .returned (.tuple #[.agg #[.int .i64 0, .int .i64 0, .int .i64 0, .int .i64 0], .int .i64 E1]) ∧ Below w.heap.size w w' := by
  have HR0 := Lib.hid hR0
  have HR1 := Lib.hid hR1
  have HG0 := Lib.hid hG0
  have HC0 := Lib.hid (ChoAt.begin w)
  clear hR0 hR1 hG0
  go_enter Tryd.func18, Tryd.ntmps18
  go_wp2_with fail
  refine wp_loop_rounds 3 ?_
  rw [rounds_succ]
  go_wp2_with fail
  refine (HR0.out _ HC0.out.bel).mono ?_
  rintro e w1 ⟨rfl, hb⟩
  have HC1 := Lib.hid (HC0.out.below hb)
  clear HC0 hb
  go_wp2_with fail
  refine (HG0.out _).mono ?_
  rintro e w2 ⟨rfl, hb⟩
  obtain ⟨hC, hM, hz⟩ := (HC1.out.below hb).got a0 a1 a2 a3
  have hs2 : w.heap.size + 1 < w2.heap.size := (HC1.out.below hb).siz
  clear HC1 hb hz
  have HC3 := Lib.hid hC
  have HM := Lib.hid hM
  clear hC hM
  go_upto_region 9 with fail
  change Code.wp _ _ _ _ (w2.alloc (.cells #[.int .i64 a0, .int .i64 a1, .int .i64 a2, .int .i64 a3] 23))
  generalize w2.alloc (.cells #[.int .i64 a0, .int .i64 a1, .int .i64 a2, .int .i64 a3] 23) = w3 at *
  obtain ⟨⟨m0, m1, m2, m3⟩, -⟩ := HM.out.four
  obtain ⟨⟨q0, q1, q2, q3⟩, f0, f1, f2, f3⟩ := HC3.out.new.four
  go_wp2_with fail
  clear m0 m1 m2 m3 q0 q1 q2 q3 f0 f1 f2 f3 HM
  have HC4 := Lib.hid (HC3.out.take a0 a1 a2 a3)
  change Code.rounds _ _ _ _ _ (metaSet w3 (w.heap.size + 1) a0 a1 a2 a3)
  generalize metaSet w3 (w.heap.size + 1) a0 a1 a2 a3 = w4 at *
  rw [rounds_succ]
  go_wp2_with fail
  refine (HR1.out _ HC4.out.bel).mono ?_
  rintro e w5 ⟨rfl, hb⟩
  have HC5 := Lib.hid (HC4.out.below hb)
  clear HC4 hb
  obtain ⟨⟨q0, q1, q2, q3⟩, f0, f1, f2, f3⟩ := HC5.out.new.four
  obtain ⟨⟨p0, p1, p2, p3⟩, g0, g1, g2, g3⟩ := HC5.out.ans.four
  go_wp2_with fail
  clear q0 q1 q2 q3 f0 f1 f2 f3 p0 p1 p2 p3 g0 g1 g2 g3
  change bodyPost _ _ _ _ _ (metaSet w5 w.heap.size 0 0 0 0)
  obtain ⟨hh, hb⟩ := HC5.out.done 0 0 0 0
  obtain ⟨⟨k0, k1, k2, k3⟩, -⟩ := hh.four
  clear hh
  generalize metaSet w5 w.heap.size 0 0 0 0 = wz at *
  exact bodyPost_ret (v := .tuple #[.agg #[.int .i64 0, .int .i64 0, .int .i64 0, .int .i64 0], .int .i64 E1]) (by simp [results, Tryd.results18, go_sem, k0, k1, k2, k3]) rfl ⟨rfl, hb⟩

set_option maxRecDepth 100000 in
set_option maxHeartbeats 4000000 in
theorem cho_off2 (P : Value) (b0 b1 : ByteArray) (a0 a1 a2 a3 c0 c1 c2 c3 E0 E1 : Int) (w : World) (hR0 : ReadTo P w 0 b0 0) (hG0 : GetTo 0 b0 0 0 0 0 E0) (hE0 : (E0 != 0) = true) (hR1 : ReadTo P w 1 b1 E1) (hE1 : (E1 != 0) = true) :
    Calls Tryd.prog 18 #[P] w fun e w' => e = .returned (.tuple #[.agg #[.int .i64 0, .int .i64 0, .int .i64 0, .int .i64 0], .int .i64 E1]) ∧ Below w.heap.size w w' := by
  have HR0 := Lib.hid hR0
  have HR1 := Lib.hid hR1
  have HG0 := Lib.hid hG0
  have HC0 := Lib.hid (ChoAt.begin w)
  clear hR0 hR1 hG0
  go_enter Tryd.func18, Tryd.ntmps18
  go_wp2_with fail
  refine wp_loop_rounds 3 ?_
  rw [rounds_succ]
  go_wp2_with fail
  refine (HR0.out _ HC0.out.bel).mono ?_
  rintro e w1 ⟨rfl, hb⟩
  have HC1 := Lib.hid (HC0.out.below hb)
  clear HC0 hb
  go_wp2_with fail
  refine (HG0.out _).mono ?_
  rintro e w2 ⟨rfl, hb⟩
  have HC3 := Lib.hid ((HC1.out.below hb).more)
  clear HC1 hb
  go_upto_region 9 with fail
  change Code.wp _ _ _ _ (w2.alloc metaZ)
  generalize w2.alloc metaZ = w3 at *
  go_wp2_with fail
  rw [rounds_succ]
  go_wp2_with fail
  refine (HR1.out _ HC3.out.bel).mono ?_
  rintro e w4 ⟨rfl, hb⟩
  have HC4 := Lib.hid (HC3.out.below hb)
  clear HC3 hb
  obtain ⟨⟨q0, q1, q2, q3⟩, f0, f1, f2, f3⟩ := HC4.out.new.four
  obtain ⟨⟨p0, p1, p2, p3⟩, g0, g1, g2, g3⟩ := HC4.out.ans.four
  go_wp2_with fail
  clear q0 q1 q2 q3 f0 f1 f2 f3 p0 p1 p2 p3 g0 g1 g2 g3
  change bodyPost _ _ _ _ _ (metaSet w4 w.heap.size 0 0 0 0)
  obtain ⟨hh, hb⟩ := HC4.out.done 0 0 0 0
  obtain ⟨⟨k0, k1, k2, k3⟩, -⟩ := hh.four
  clear hh
  generalize metaSet w4 w.heap.size 0 0 0 0 = wz at *
  exact bodyPost_ret (v := .tuple #[.agg #[.int .i64 0, .int .i64 0, .int .i64 0, .int .i64 0], .int .i64 E1]) (by simp [results, Tryd.results18, go_sem, k0, k1, k2, k3]) rfl ⟨rfl, hb⟩

end Go.Proofs.YthcpjpebahiikaaDoor

namespace Go.Proofs.YthcpjpebahiikaaDoor
open Go.RowKit Go.Lib

/-- What Choose tells: E0 and x are what page 0 is read as, E1 and y what page 1 is. -/
def choE (E0 E1 : Int) (x y : List UInt8) : Int := if E0 ≠ 0 then E0 else if E1 ≠ 0 then E1 else if GetOK 0 x ∨ GetOK 1 y then 0 else 15
def choN (E0 E1 : Int) (x y : List UInt8) (i : Nat) : Int := if E0 ≠ 0 ∨ E1 ≠ 0 then 0 else if GetOK 1 y ∧ (GetOK 0 x → getN 0 x 0 < getN 1 y 0) then getN 1 y i else getN 0 x i
def choV (E0 E1 : Int) (x y : List UInt8) : Value := metaV (choN E0 E1 x y 0) (choN E0 E1 x y 1) (choN E0 E1 x y 2) (choN E0 E1 x y 3)

theorem getTo_yes {i : Int} {b : ByteArray} (h : GetOK i b.data.toList) : GetTo i b (getN i b.data.toList 0) (getN i b.data.toList 1) (getN i b.data.toList 2) (getN i b.data.toList 3) 0 := by
  intro w
  have := get_any i b w
  rwa [getE_ok h] at this
theorem getTo_no {i : Int} {b : ByteArray} (h : ¬ GetOK i b.data.toList) : GetTo i b 0 0 0 0 (getE i b.data.toList) := by
  intro w
  have := get_any i b w
  rwa [(get_bad h).1] at this
section
variable {x y : List UInt8} {E0 E1 : Int}
theorem choE_in (h : GetOK 0 x ∨ GetOK 1 y) : choE 0 0 x y = 0 := by unfold choE; rw [if_neg (fun h => h rfl), if_neg (fun h => h rfl), if_pos h]
theorem choE_none (h0 : ¬ GetOK 0 x) (h1 : ¬ GetOK 1 y) : choE 0 0 x y = 15 := by unfold choE; rw [if_neg (fun h => h rfl), if_neg (fun h => h rfl), if_neg (fun h => h.elim h0 h1)]
theorem choE_off (h : E0 ≠ 0) : choE E0 E1 x y = E0 := by unfold choE; rw [if_pos h]
theorem choE_off1 (h : E1 ≠ 0) : choE 0 E1 x y = E1 := by unfold choE; rw [if_neg (fun h => h rfl), if_pos h]
theorem choN_off (h : E0 ≠ 0 ∨ E1 ≠ 0) (i : Nat) : choN E0 E1 x y i = 0 := by unfold choN; rw [if_pos h]
theorem choN_second (h1 : GetOK 1 y) (h : GetOK 0 x → getN 0 x 0 < getN 1 y 0) (i : Nat) : choN 0 0 x y i = getN 1 y i := by
  unfold choN; rw [if_neg (fun h => h.elim (fun h => h rfl) (fun h => h rfl)), if_pos ⟨h1, h⟩]
theorem choN_first (h : ¬ (GetOK 1 y ∧ (GetOK 0 x → getN 0 x 0 < getN 1 y 0))) (i : Nat) : choN 0 0 x y i = getN 0 x i := by
  unfold choN; rw [if_neg (fun h => h.elim (fun h => h rfl) (fun h => h rfl)), if_neg h]
theorem choV_off (h : E0 ≠ 0 ∨ E1 ≠ 0) : choV E0 E1 x y = metaV 0 0 0 0 := by unfold choV; rw [choN_off h, choN_off h, choN_off h, choN_off h]
theorem choV_second (h1 : GetOK 1 y) (h : GetOK 0 x → getN 0 x 0 < getN 1 y 0) : choV 0 0 x y = getV 1 y := by unfold choV getV; rw [choN_second h1 h, choN_second h1 h, choN_second h1 h, choN_second h1 h]
theorem choV_first (h : ¬ (GetOK 1 y ∧ (GetOK 0 x → getN 0 x 0 < getN 1 y 0))) : choV 0 0 x y = getV 0 x := by unfold choV getV; rw [choN_first h, choN_first h, choN_first h, choN_first h]
end
theorem choose_reads (P : Value) (w : World) (b0 b1 : ByteArray) (E0 E1 : Int) (hR0 : ReadTo P w 0 b0 E0) (hR1 : ReadTo P w 1 b1 E1) :
    Calls Tryd.prog 18 #[P] w fun e w' => e = .returned (.tuple #[choV E0 E1 b0.data.toList b1.data.toList, .int .i64 (choE E0 E1 b0.data.toList b1.data.toList)]) ∧ Below w.heap.size w w' := by
  by_cases h0 : E0 = 0
  · subst h0
    by_cases h1 : E1 = 0
    · subst h1
      by_cases g0 : GetOK 0 b0.data.toList
      · rw [choE_in (.inl g0)]
        by_cases g1 : GetOK 1 b1.data.toList
        · by_cases hlt : getN 0 b0.data.toList 0 < getN 1 b1.data.toList 0
          · rw [choV_second g1 (fun _ => hlt)]
            exact cho_both P b0 b1 _ _ _ _ _ _ _ _ 0 0 w hR0 hR1 (getTo_yes g0) (getTo_yes g1) (decide_eq_true hlt)
          · rw [choV_first (fun h => hlt (h.2 g0))]
            exact cho_keep P b0 b1 _ _ _ _ _ _ _ _ 0 0 w hR0 hR1 (getTo_yes g0) (getTo_yes g1) (decide_eq_false hlt)
        · rw [choV_first (fun h => g1 h.1)]
          exact cho_first P b0 b1 _ _ _ _ 0 0 0 0 0 _ w hR0 hR1 (getTo_yes g0) (getTo_no g1) (by simpa using (get_bad g1).2)
      · by_cases g1 : GetOK 1 b1.data.toList
        · rw [choE_in (.inr g1), choV_second g1 (fun h => absurd h g0)]
          exact cho_second P b0 b1 0 0 0 0 _ _ _ _ _ 0 w hR0 hR1 (getTo_no g0) (by simpa using (get_bad g0).2) (getTo_yes g1)
        · rw [choE_none g0 g1, choV_first (fun h => g1 h.1), (get_bad g0).1]
          exact cho_none P b0 b1 0 0 0 0 0 0 0 0 _ _ w hR0 hR1 (getTo_no g0) (by simpa using (get_bad g0).2) (getTo_no g1) (by simpa using (get_bad g1).2)
    · rw [choV_off (.inr h1), choE_off1 h1]
      by_cases g0 : GetOK 0 b0.data.toList
      · exact cho_off1 P b0 b1 _ _ _ _ 0 0 0 0 0 E1 w hR0 (getTo_yes g0) hR1 (by simpa using h1)
      · exact cho_off2 P b0 b1 0 0 0 0 0 0 0 0 _ E1 w hR0 (getTo_no g0) (by simpa using (get_bad g0).2) hR1 (by simpa using h1)
  · rw [choV_off (.inl h0), choE_off h0]
    exact cho_off P b0 b1 0 0 0 0 0 0 0 0 E0 E1 w hR0 (by simpa using h0)

/-- What Choose answers of a device. -/
def chooseV (s : DevS) : Value := choV (readE s 0) (readE s 1) (readB s 0).data.toList (readB s 1).data.toList
def chooseE (s : DevS) : Int := choE (readE s 0) (readE s 1) (readB s 0).data.toList (readB s 1).data.toList
theorem choose_any (p : Nat) (s : DevS) (F : List Nat) (w : World) (h : DevAt w p s F) :
    Calls Tryd.prog 18 #[.pointer (some ⟨p, 0, none⟩)] w fun e w' => e = .returned (.tuple #[chooseV s, .int .i64 (chooseE s)]) ∧ Below w.heap.size w w' :=
  choose_reads _ w _ _ _ _ (fun w' hb => read_any p s F 0 w' (h.goes hb).1) (fun w' hb => read_any p s F 1 w' (h.goes hb).1)
theorem choose_nil (w : World) :
    Calls Tryd.prog 18 #[.pointer none] w fun e w' => e = .returned (.tuple #[metaV 0 0 0 0, .int .i64 14]) ∧ Below w.heap.size w w' :=
  choose_reads _ w ByteArray.empty ByteArray.empty 14 14 (fun w' _ => (read_nil 0 w').mono (by rintro e w'' ⟨rfl, rfl⟩; exact ⟨rfl, Below.refl _ _⟩)) (fun w' _ => (read_nil 1 w').mono (by rintro e w'' ⟨rfl, rfl⟩; exact ⟨rfl, Below.refl _ _⟩))

/-- Write, of a meta that has no page. -/
theorem mwrite_bad (P : Value) (t r f p : Int) (w : World) (ht : IsInt t) (hr : IsInt r) (hf : IsInt f) (hp : IsInt p) (hE : ¬ MetaOK t r f p) :
    Calls Tryd.prog 17 #[P, metaV t r f p] w fun e w' => e = .returned (.int .i64 1) ∧ Below w.heap.size w w' := by
  have hP := mput_any t r f p
  rw [putB, putE, if_neg hE, if_neg hE] at hP
  unfold metaV at hP ⊢
  go_enter Tryd.func17, Tryd.ntmps17
  go_wp2_with fail
  refine (hP _ ht hr hf hp).mono ?_
  rintro e w1 ⟨rfl, hb1⟩
  go_wp2_with fail
  go_ret
  exact ⟨rfl, ((Below.refl _ _).alloc (Nat.le_refl _) _).trans (hb1.mono (by simp))⟩
/-- Write, of a meta that has one. -/
theorem mwrite_ok (P : Value) (t r f p E : Int) (w : World) (Q : World → World → Prop) (ht : IsInt t) (hr : IsInt r) (hf : IsInt f) (hp : IsInt p) (hok : MetaOK t r f p)
    (hW : ∀ w1, Below w.heap.size w w1 → Calls Tryd.prog 15 #[P, .int .i64 (t % 2), .string ⟨(mpage t.toNat r.toNat f.toNat p.toNat).toArray⟩] w1 fun e w' => e = .returned (.int .i64 E) ∧ Q w1 w') :
    Calls Tryd.prog 17 #[P, metaV t r f p] w fun e w' => e = .returned (.int .i64 E) ∧ ∃ w1, Below w.heap.size w w1 ∧ Q w1 w' := by
  have hP := mput_any t r f p
  rw [putB, putE, if_pos hok, if_pos hok] at hP
  have HW := Lib.hid hW
  have hH : Has (w.alloc (.cells #[.int .i64 t, .int .i64 r, .int .i64 f, .int .i64 p] 23)) w.heap.size 23 #[.int .i64 t, .int .i64 r, .int .i64 f, .int .i64 p] := Has.made w _ _
  clear hW
  unfold metaV at hP ⊢
  generalize (⟨(mpage t.toNat r.toNat f.toNat p.toNat).toArray⟩ : ByteArray) = X at *
  go_enter Tryd.func17, Tryd.ntmps17
  go_wp2_with fail
  refine (hP _ ht hr hf hp).mono ?_
  rintro e w1 ⟨rfl, hb1⟩
  have hs1 := hb1.size
  simp at hs1
  have c0 : w1.cell? ⟨w.heap.size, 0, none⟩ = some (.int .i64 t) := (hH.below hb1 hH.inside).cell 0
  have HB := Lib.hid (((Below.refl w.heap.size w).alloc (Nat.le_refl _) (.cells #[.int .i64 t, .int .i64 r, .int .i64 f, .int .i64 p] 23)).trans (hb1.mono (by simp)))
  clear hH hb1
  go_wp2_with (go_at_call 7; refine (place_any _ _).mono ?_; rintro e w5 ⟨rfl, rfl⟩)
  refine (HW.out _ HB.out).mono ?_
  rintro e w6 ⟨rfl, hq⟩
  go_wp2_with fail
  go_ret
  exact ⟨rfl, _, HB.out, hq⟩
end Go.Proofs.YthcpjpebahiikaaDoor

namespace Go.Proofs.YthcpjpebahiikaaDoor
open Go.RowKit Go.Lib

def RGetTo (i : Int) (b : ByteArray) (t r f p E : Int) : Prop :=
  ∀ w' : World, Calls Tryd.prog 10 #[.int .i64 i, .string b] w' fun e w'' => e = .returned (.tuple #[.agg #[.int .i64 t, .int .i64 r, .int .i64 f, .int .i64 p], .int .i64 E]) ∧ Below w'.heap.size w' w''
theorem rgetTo_yes {i : Int} {b : ByteArray} (hi : IsInt i) (h : GetOK i b.data.toList) : RGetTo i b (getN i b.data.toList 0) (getN i b.data.toList 1) (getN i b.data.toList 2) (getN i b.data.toList 3) 0 := by
  intro w
  have := refGetMeta_any i b w hi
  rwa [getE_ok h] at this
theorem rgetTo_no {i : Int} {b : ByteArray} (hi : IsInt i) (h : ¬ GetOK i b.data.toList) : RGetTo i b 0 0 0 0 (getE i b.data.toList) := by
  intro w
  have := refGetMeta_any i b w hi
  rwa [(get_bad h).1] at this

set_option maxRecDepth 100000 in
set_option maxHeartbeats 4000000 in
theorem rcho_none (a b : ByteArray) (a0 a1 a2 a3 c0 c1 c2 c3 E0 E1 : Int) (w : World) (hG0 : RGetTo 0 a 0 0 0 0 E0) (hG1 : RGetTo 1 b 0 0 0 0 E1) (hE0 : (E0 != 0) = true) (hE1 : (E1 != 0) = true) :
    Calls Tryd.prog 38 #[.string a, .string b] w fun e w' => e = .returned (.tuple #[.agg #[.int .i64 0, .int .i64 0, .int .i64 0, .int .i64 0], .int .i64 15]) ∧ Below w.heap.size w w' := by
  have HG0 := Lib.hid hG0
  have HG1 := Lib.hid hG1
  have hH : Has (w.alloc metaZ) w.heap.size 23 #[.int .i64 0, .int .i64 0, .int .i64 0, .int .i64 0] := Has.made w _ _
  clear hG0 hG1
  go_enter Tryd.func38, Tryd.ntmps38
  go_wp2_with fail
  refine (HG0.out _).mono ?_
  rintro e w1 ⟨rfl, hb1⟩
  have hs1 := hb1.size
  simp at hs1
  have h1 := And.intro ((hH.below hb1 hH.inside).alloc (metaO 0 0 0 0)) (And.intro (Has.made w1 23 #[.int .i64 0, .int .i64 0, .int .i64 0, .int .i64 0]) ((((Below.refl w.heap.size w).alloc (Nat.le_refl _) metaZ).trans (hb1.mono (B' := w.heap.size) (by simp))).alloc (by omega) (metaO 0 0 0 0)))
  have hz1 : (w1.alloc (metaO 0 0 0 0)).heap.size = w1.heap.size + 1 := by simp
  have H1 := Lib.hid h1
  clear hH hb1 h1
  go_upto_region 2 with fail
  change Code.wp _ _ _ _ (w1.alloc (metaO 0 0 0 0))
  generalize w1.alloc (metaO 0 0 0 0) = W1 at *
  go_wp2_with fail
  refine (HG1.out _).mono ?_
  rintro e w2 ⟨rfl, hb2⟩
  have hs2 := hb2.size
  have h2 := And.intro ((H1.out.1.below hb2 H1.out.1.inside).alloc (metaO 0 0 0 0)) (And.intro ((H1.out.2.1.below hb2 H1.out.2.1.inside).alloc (metaO 0 0 0 0)) (And.intro (Has.made w2 23 #[.int .i64 0, .int .i64 0, .int .i64 0, .int .i64 0]) ((H1.out.2.2.trans (hb2.mono (B' := w.heap.size) (by omega))).alloc (by omega) (metaO 0 0 0 0))))
  clear H1 hb2
  go_upto_region 3 with fail
  change Code.wp _ _ _ _ (w2.alloc (metaO 0 0 0 0))
  generalize w2.alloc (metaO 0 0 0 0) = W2 at *
  obtain ⟨hA, hM, hN, hB⟩ := h2
  obtain ⟨⟨p0, p1, p2, p3⟩, g0, g1, g2, g3⟩ := hA.four
  obtain ⟨⟨m0, m1, m2, m3⟩, -⟩ := hM.four
  obtain ⟨⟨n0, n1, n2, n3⟩, -⟩ := hN.four
  have HE := Lib.hid (And.intro (hA.metaSet 0 0 0 0).four.1 (metaSet_below hB (Nat.le_refl _) 0 0 0 0))
  clear hA hM hN hB
  go_wp2_with fail
  change bodyPost _ _ _ _ _ (metaSet W2 w.heap.size 0 0 0 0)
  obtain ⟨⟨k0, k1, k2, k3⟩, hb⟩ := HE.out
  clear HE p0 p1 p2 p3 g0 g1 g2 g3 m0 m1 m2 m3 n0 n1 n2 n3
  generalize metaSet _ _ _ _ _ _ = wz at *
  exact bodyPost_ret (v := .tuple #[.agg #[.int .i64 0, .int .i64 0, .int .i64 0, .int .i64 0], .int .i64 15]) (by simp [results, Tryd.results38, go_sem, k0, k1, k2, k3]) rfl ⟨rfl, hb⟩

set_option maxRecDepth 100000 in
set_option maxHeartbeats 4000000 in
theorem rcho_second (a b : ByteArray) (a0 a1 a2 a3 c0 c1 c2 c3 E0 E1 : Int) (w : World) (hG0 : RGetTo 0 a 0 0 0 0 E0) (hG1 : RGetTo 1 b c0 c1 c2 c3 0) (hE0 : (E0 != 0) = true) :
    Calls Tryd.prog 38 #[.string a, .string b] w fun e w' => e = .returned (.tuple #[.agg #[.int .i64 c0, .int .i64 c1, .int .i64 c2, .int .i64 c3], .int .i64 0]) ∧ Below w.heap.size w w' := by
  have HG0 := Lib.hid hG0
  have HG1 := Lib.hid hG1
  have hH : Has (w.alloc metaZ) w.heap.size 23 #[.int .i64 0, .int .i64 0, .int .i64 0, .int .i64 0] := Has.made w _ _
  clear hG0 hG1
  go_enter Tryd.func38, Tryd.ntmps38
  go_wp2_with fail
  refine (HG0.out _).mono ?_
  rintro e w1 ⟨rfl, hb1⟩
  have hs1 := hb1.size
  simp at hs1
  have h1 := And.intro ((hH.below hb1 hH.inside).alloc (metaO 0 0 0 0)) (And.intro (Has.made w1 23 #[.int .i64 0, .int .i64 0, .int .i64 0, .int .i64 0]) ((((Below.refl w.heap.size w).alloc (Nat.le_refl _) metaZ).trans (hb1.mono (B' := w.heap.size) (by simp))).alloc (by omega) (metaO 0 0 0 0)))
  have hz1 : (w1.alloc (metaO 0 0 0 0)).heap.size = w1.heap.size + 1 := by simp
  have H1 := Lib.hid h1
  clear hH hb1 h1
  go_upto_region 2 with fail
  change Code.wp _ _ _ _ (w1.alloc (metaO 0 0 0 0))
  generalize w1.alloc (metaO 0 0 0 0) = W1 at *
  go_wp2_with fail
  refine (HG1.out _).mono ?_
  rintro e w2 ⟨rfl, hb2⟩
  have hs2 := hb2.size
  have h2 := And.intro ((H1.out.1.below hb2 H1.out.1.inside).alloc (metaO c0 c1 c2 c3)) (And.intro ((H1.out.2.1.below hb2 H1.out.2.1.inside).alloc (metaO c0 c1 c2 c3)) (And.intro (Has.made w2 23 #[.int .i64 c0, .int .i64 c1, .int .i64 c2, .int .i64 c3]) ((H1.out.2.2.trans (hb2.mono (B' := w.heap.size) (by omega))).alloc (by omega) (metaO c0 c1 c2 c3))))
  clear H1 hb2
  go_upto_region 3 with fail
  change Code.wp _ _ _ _ (w2.alloc (metaO c0 c1 c2 c3))
  generalize w2.alloc (metaO c0 c1 c2 c3) = W2 at *
  obtain ⟨hA, hM, hN, hB⟩ := h2
  obtain ⟨⟨p0, p1, p2, p3⟩, g0, g1, g2, g3⟩ := hA.four
  obtain ⟨⟨m0, m1, m2, m3⟩, -⟩ := hM.four
  obtain ⟨⟨n0, n1, n2, n3⟩, -⟩ := hN.four
  have HE := Lib.hid (And.intro (hA.metaSet c0 c1 c2 c3).four.1 (metaSet_below hB (Nat.le_refl _) c0 c1 c2 c3))
  clear hA hM hN hB
  go_wp2_with fail
  change bodyPost _ _ _ _ _ (metaSet W2 w.heap.size c0 c1 c2 c3)
  obtain ⟨⟨k0, k1, k2, k3⟩, hb⟩ := HE.out
  clear HE p0 p1 p2 p3 g0 g1 g2 g3 m0 m1 m2 m3 n0 n1 n2 n3
  generalize metaSet _ _ _ _ _ _ = wz at *
  exact bodyPost_ret (v := .tuple #[.agg #[.int .i64 c0, .int .i64 c1, .int .i64 c2, .int .i64 c3], .int .i64 0]) (by simp [results, Tryd.results38, go_sem, k0, k1, k2, k3]) rfl ⟨rfl, hb⟩

set_option maxRecDepth 100000 in
set_option maxHeartbeats 4000000 in
theorem rcho_first (a b : ByteArray) (a0 a1 a2 a3 c0 c1 c2 c3 E0 E1 : Int) (w : World) (hG0 : RGetTo 0 a a0 a1 a2 a3 0) (hG1 : RGetTo 1 b 0 0 0 0 E1) (hE1 : (E1 != 0) = true) :
    Calls Tryd.prog 38 #[.string a, .string b] w fun e w' => e = .returned (.tuple #[.agg #[.int .i64 a0, .int .i64 a1, .int .i64 a2, .int .i64 a3], .int .i64 0]) ∧ Below w.heap.size w w' := by
  have HG0 := Lib.hid hG0
  have HG1 := Lib.hid hG1
  have hH : Has (w.alloc metaZ) w.heap.size 23 #[.int .i64 0, .int .i64 0, .int .i64 0, .int .i64 0] := Has.made w _ _
  clear hG0 hG1
  go_enter Tryd.func38, Tryd.ntmps38
  go_wp2_with fail
  refine (HG0.out _).mono ?_
  rintro e w1 ⟨rfl, hb1⟩
  have hs1 := hb1.size
  simp at hs1
  have h1 := And.intro ((hH.below hb1 hH.inside).alloc (metaO a0 a1 a2 a3)) (And.intro (Has.made w1 23 #[.int .i64 a0, .int .i64 a1, .int .i64 a2, .int .i64 a3]) ((((Below.refl w.heap.size w).alloc (Nat.le_refl _) metaZ).trans (hb1.mono (B' := w.heap.size) (by simp))).alloc (by omega) (metaO a0 a1 a2 a3)))
  have hz1 : (w1.alloc (metaO a0 a1 a2 a3)).heap.size = w1.heap.size + 1 := by simp
  have H1 := Lib.hid h1
  clear hH hb1 h1
  go_upto_region 2 with fail
  change Code.wp _ _ _ _ (w1.alloc (metaO a0 a1 a2 a3))
  generalize w1.alloc (metaO a0 a1 a2 a3) = W1 at *
  go_wp2_with fail
  refine (HG1.out _).mono ?_
  rintro e w2 ⟨rfl, hb2⟩
  have hs2 := hb2.size
  have h2 := And.intro ((H1.out.1.below hb2 H1.out.1.inside).alloc (metaO 0 0 0 0)) (And.intro ((H1.out.2.1.below hb2 H1.out.2.1.inside).alloc (metaO 0 0 0 0)) (And.intro (Has.made w2 23 #[.int .i64 0, .int .i64 0, .int .i64 0, .int .i64 0]) ((H1.out.2.2.trans (hb2.mono (B' := w.heap.size) (by omega))).alloc (by omega) (metaO 0 0 0 0))))
  clear H1 hb2
  go_upto_region 3 with fail
  change Code.wp _ _ _ _ (w2.alloc (metaO 0 0 0 0))
  generalize w2.alloc (metaO 0 0 0 0) = W2 at *
  obtain ⟨hA, hM, hN, hB⟩ := h2
  obtain ⟨⟨p0, p1, p2, p3⟩, g0, g1, g2, g3⟩ := hA.four
  obtain ⟨⟨m0, m1, m2, m3⟩, -⟩ := hM.four
  obtain ⟨⟨n0, n1, n2, n3⟩, -⟩ := hN.four
  have HE := Lib.hid (And.intro (hA.metaSet a0 a1 a2 a3).four.1 (metaSet_below hB (Nat.le_refl _) a0 a1 a2 a3))
  clear hA hM hN hB
  go_wp2_with fail
  change bodyPost _ _ _ _ _ (metaSet W2 w.heap.size a0 a1 a2 a3)
  obtain ⟨⟨k0, k1, k2, k3⟩, hb⟩ := HE.out
  clear HE p0 p1 p2 p3 g0 g1 g2 g3 m0 m1 m2 m3 n0 n1 n2 n3
  generalize metaSet _ _ _ _ _ _ = wz at *
  exact bodyPost_ret (v := .tuple #[.agg #[.int .i64 a0, .int .i64 a1, .int .i64 a2, .int .i64 a3], .int .i64 0]) (by simp [results, Tryd.results38, go_sem, k0, k1, k2, k3]) rfl ⟨rfl, hb⟩

set_option maxRecDepth 100000 in
set_option maxHeartbeats 4000000 in
theorem rcho_keep (a b : ByteArray) (a0 a1 a2 a3 c0 c1 c2 c3 E0 E1 : Int) (w : World) (hG0 : RGetTo 0 a a0 a1 a2 a3 0) (hG1 : RGetTo 1 b c0 c1 c2 c3 0) (hlt : c0 < a0) :
    Calls Tryd.prog 38 #[.string a, .string b] w fun e w' => e = .returned (.tuple #[.agg #[.int .i64 a0, .int .i64 a1, .int .i64 a2, .int .i64 a3], .int .i64 0]) ∧ Below w.heap.size w w' := by
  have HG0 := Lib.hid hG0
  have HG1 := Lib.hid hG1
  have hH : Has (w.alloc metaZ) w.heap.size 23 #[.int .i64 0, .int .i64 0, .int .i64 0, .int .i64 0] := Has.made w _ _
  clear hG0 hG1
  go_enter Tryd.func38, Tryd.ntmps38
  go_wp2_with fail
  refine (HG0.out _).mono ?_
  rintro e w1 ⟨rfl, hb1⟩
  have hs1 := hb1.size
  simp at hs1
  have h1 := And.intro ((hH.below hb1 hH.inside).alloc (metaO a0 a1 a2 a3)) (And.intro (Has.made w1 23 #[.int .i64 a0, .int .i64 a1, .int .i64 a2, .int .i64 a3]) ((((Below.refl w.heap.size w).alloc (Nat.le_refl _) metaZ).trans (hb1.mono (B' := w.heap.size) (by simp))).alloc (by omega) (metaO a0 a1 a2 a3)))
  have hz1 : (w1.alloc (metaO a0 a1 a2 a3)).heap.size = w1.heap.size + 1 := by simp
  have H1 := Lib.hid h1
  clear hH hb1 h1
  go_upto_region 2 with fail
  change Code.wp _ _ _ _ (w1.alloc (metaO a0 a1 a2 a3))
  generalize w1.alloc (metaO a0 a1 a2 a3) = W1 at *
  go_wp2_with fail
  refine (HG1.out _).mono ?_
  rintro e w2 ⟨rfl, hb2⟩
  have hs2 := hb2.size
  have h2 := And.intro ((H1.out.1.below hb2 H1.out.1.inside).alloc (metaO c0 c1 c2 c3)) (And.intro ((H1.out.2.1.below hb2 H1.out.2.1.inside).alloc (metaO c0 c1 c2 c3)) (And.intro (Has.made w2 23 #[.int .i64 c0, .int .i64 c1, .int .i64 c2, .int .i64 c3]) ((H1.out.2.2.trans (hb2.mono (B' := w.heap.size) (by omega))).alloc (by omega) (metaO c0 c1 c2 c3))))
  clear H1 hb2
  go_upto_region 3 with fail
  change Code.wp _ _ _ _ (w2.alloc (metaO c0 c1 c2 c3))
  generalize w2.alloc (metaO c0 c1 c2 c3) = W2 at *
  obtain ⟨hA, hM, hN, hB⟩ := h2
  obtain ⟨⟨p0, p1, p2, p3⟩, g0, g1, g2, g3⟩ := hA.four
  obtain ⟨⟨m0, m1, m2, m3⟩, -⟩ := hM.four
  obtain ⟨⟨n0, n1, n2, n3⟩, -⟩ := hN.four
  have HE := Lib.hid (And.intro (hA.metaSet a0 a1 a2 a3).four.1 (metaSet_below hB (Nat.le_refl _) a0 a1 a2 a3))
  clear hA hM hN hB
  go_wp2_with fail
  change bodyPost _ _ _ _ _ (metaSet W2 w.heap.size a0 a1 a2 a3)
  obtain ⟨⟨k0, k1, k2, k3⟩, hb⟩ := HE.out
  clear HE p0 p1 p2 p3 g0 g1 g2 g3 m0 m1 m2 m3 n0 n1 n2 n3
  generalize metaSet _ _ _ _ _ _ = wz at *
  exact bodyPost_ret (v := .tuple #[.agg #[.int .i64 a0, .int .i64 a1, .int .i64 a2, .int .i64 a3], .int .i64 0]) (by simp [results, Tryd.results38, go_sem, k0, k1, k2, k3]) rfl ⟨rfl, hb⟩

set_option maxRecDepth 100000 in
set_option maxHeartbeats 4000000 in
theorem rcho_newer (a b : ByteArray) (a0 a1 a2 a3 c0 c1 c2 c3 E0 E1 : Int) (w : World) (hG0 : RGetTo 0 a a0 a1 a2 a3 0) (hG1 : RGetTo 1 b c0 c1 c2 c3 0) (hlt : ¬ c0 < a0) :
    Calls Tryd.prog 38 #[.string a, .string b] w fun e w' => e = .returned (.tuple #[.agg #[.int .i64 c0, .int .i64 c1, .int .i64 c2, .int .i64 c3], .int .i64 0]) ∧ Below w.heap.size w w' := by
  have HG0 := Lib.hid hG0
  have HG1 := Lib.hid hG1
  have hH : Has (w.alloc metaZ) w.heap.size 23 #[.int .i64 0, .int .i64 0, .int .i64 0, .int .i64 0] := Has.made w _ _
  clear hG0 hG1
  go_enter Tryd.func38, Tryd.ntmps38
  go_wp2_with fail
  refine (HG0.out _).mono ?_
  rintro e w1 ⟨rfl, hb1⟩
  have hs1 := hb1.size
  simp at hs1
  have h1 := And.intro ((hH.below hb1 hH.inside).alloc (metaO a0 a1 a2 a3)) (And.intro (Has.made w1 23 #[.int .i64 a0, .int .i64 a1, .int .i64 a2, .int .i64 a3]) ((((Below.refl w.heap.size w).alloc (Nat.le_refl _) metaZ).trans (hb1.mono (B' := w.heap.size) (by simp))).alloc (by omega) (metaO a0 a1 a2 a3)))
  have hz1 : (w1.alloc (metaO a0 a1 a2 a3)).heap.size = w1.heap.size + 1 := by simp
  have H1 := Lib.hid h1
  clear hH hb1 h1
  go_upto_region 2 with fail
  change Code.wp _ _ _ _ (w1.alloc (metaO a0 a1 a2 a3))
  generalize w1.alloc (metaO a0 a1 a2 a3) = W1 at *
  go_wp2_with fail
  refine (HG1.out _).mono ?_
  rintro e w2 ⟨rfl, hb2⟩
  have hs2 := hb2.size
  have h2 := And.intro ((H1.out.1.below hb2 H1.out.1.inside).alloc (metaO c0 c1 c2 c3)) (And.intro ((H1.out.2.1.below hb2 H1.out.2.1.inside).alloc (metaO c0 c1 c2 c3)) (And.intro (Has.made w2 23 #[.int .i64 c0, .int .i64 c1, .int .i64 c2, .int .i64 c3]) ((H1.out.2.2.trans (hb2.mono (B' := w.heap.size) (by omega))).alloc (by omega) (metaO c0 c1 c2 c3))))
  clear H1 hb2
  go_upto_region 3 with fail
  change Code.wp _ _ _ _ (w2.alloc (metaO c0 c1 c2 c3))
  generalize w2.alloc (metaO c0 c1 c2 c3) = W2 at *
  obtain ⟨hA, hM, hN, hB⟩ := h2
  obtain ⟨⟨p0, p1, p2, p3⟩, g0, g1, g2, g3⟩ := hA.four
  obtain ⟨⟨m0, m1, m2, m3⟩, -⟩ := hM.four
  obtain ⟨⟨n0, n1, n2, n3⟩, -⟩ := hN.four
  have HE := Lib.hid (And.intro (hA.metaSet c0 c1 c2 c3).four.1 (metaSet_below hB (Nat.le_refl _) c0 c1 c2 c3))
  clear hA hM hN hB
  go_wp2_with fail
  change bodyPost _ _ _ _ _ (metaSet W2 w.heap.size c0 c1 c2 c3)
  obtain ⟨⟨k0, k1, k2, k3⟩, hb⟩ := HE.out
  clear HE p0 p1 p2 p3 g0 g1 g2 g3 m0 m1 m2 m3 n0 n1 n2 n3
  generalize metaSet _ _ _ _ _ _ = wz at *
  exact bodyPost_ret (v := .tuple #[.agg #[.int .i64 c0, .int .i64 c1, .int .i64 c2, .int .i64 c3], .int .i64 0]) (by simp [results, Tryd.results38, go_sem, k0, k1, k2, k3]) rfl ⟨rfl, hb⟩

/-- What the document's Choose tells of two pages. -/
theorem refChoose_any (a b : ByteArray) (w : World) :
    Calls Tryd.prog 38 #[.string a, .string b] w fun e w' => e = .returned (.tuple #[choV 0 0 a.data.toList b.data.toList, .int .i64 (choE 0 0 a.data.toList b.data.toList)]) ∧ Below w.heap.size w w' := by
  have i0 : IsInt 0 := by unfold IsInt; omega
  have i1 : IsInt 1 := by unfold IsInt; omega
  by_cases g0 : GetOK 0 a.data.toList
  · rw [choE_in (.inl g0)]
    by_cases g1 : GetOK 1 b.data.toList
    · by_cases hlt : getN 0 a.data.toList 0 < getN 1 b.data.toList 0
      · rw [choV_second g1 (fun _ => hlt)]
        exact rcho_newer a b _ _ _ _ _ _ _ _ 0 0 w (rgetTo_yes i0 g0) (rgetTo_yes i1 g1) (by omega)
      · rw [choV_first (fun h => hlt (h.2 g0))]
        refine rcho_keep a b _ _ _ _ _ _ _ _ 0 0 w (rgetTo_yes i0 g0) (rgetTo_yes i1 g1) ?_
        have e0 := g0.2.2.2.2
        have e1 := g1.2.2.2.2
        have f0 : getN 0 a.data.toList 0 = six (openS 0 a.data.toList) 0 := by rw [getN, if_pos g0]
        have f1 : getN 1 b.data.toList 0 = six (openS 1 b.data.toList) 0 := by rw [getN, if_pos g1]
        omega
    · rw [choV_first (fun h => g1 h.1)]
      exact rcho_first a b _ _ _ _ 0 0 0 0 0 _ w (rgetTo_yes i0 g0) (rgetTo_no i1 g1) (by simpa using (get_bad g1).2)
  · by_cases g1 : GetOK 1 b.data.toList
    · rw [choE_in (.inr g1), choV_second g1 (fun h => absurd h g0)]
      exact rcho_second a b 0 0 0 0 _ _ _ _ _ 0 w (rgetTo_no i0 g0) (rgetTo_yes i1 g1) (by simpa using (get_bad g0).2)
    · rw [choE_none g0 g1, choV_first (fun h => g1 h.1), (get_bad g0).1]
      exact rcho_none a b 0 0 0 0 0 0 0 0 _ _ w (rgetTo_no i0 g0) (rgetTo_no i1 g1) (by simpa using (get_bad g0).2) (by simpa using (get_bad g1).2)
end Go.Proofs.YthcpjpebahiikaaDoor

namespace Go.Proofs.YthcpjpebahiikaaDoor
open Go.RowKit Go.Lib

/-- In world W stands the device s at block q, and besides it the objects L; nothing that was there below B in w has turned. -/
def DevRun (B : Nat) (w : World) (q : Nat) (s : DevS) (L : List (Nat × TypeId × Array Value)) (W : World) : Prop :=
  B ≤ w.heap.size ∧ Below B w W ∧ ∃ F, DevAt W q s F ∧ (∀ k ∈ F, B ≤ k) ∧ ∀ x ∈ L, Has W x.1 x.2.1 x.2.2 ∧ x.1 ∉ F
section
variable {B q : Nat} {w W W' : World} {s : DevS} {L : List (Nat × TypeId × Array Value)}
theorem DevRun.below (h : DevRun B w q s L W) (hb : Below W.heap.size W W') : DevRun B w q s L W' := by
  obtain ⟨h0, h1, F, h2, h3, h4⟩ := h
  exact ⟨h0, h1.trans (hb.mono (Nat.le_trans h0 h1.size)), F, (h2.goes hb).1, h3, fun x hx => ⟨(h4 x hx).1.below hb (h4 x hx).1.inside, (h4 x hx).2⟩⟩
theorem DevRun.go {s' : DevS} {F F' : List Nat} (h0 : B ≤ w.heap.size) (h1 : Below B w W) (h3 : ∀ k ∈ F, B ≤ k) (h4 : ∀ x ∈ L, Has W x.1 x.2.1 x.2.2 ∧ x.1 ∉ F) (hd : DevAt W' q s' F') (hg : Goes F W F' W') : DevRun B w q s' L W' := by
  have hB : B ≤ W.heap.size := Nat.le_trans h0 h1.size
  refine ⟨h0, h1.trans (hg.1.below hB h3), F', hd, fun k hk => (hg.2 k hk).elim (h3 k) (Nat.le_trans hB), fun x hx => ⟨(h4 x hx).1.kept hg.1 (h4 x hx).2, fun hk => ?_⟩⟩
  rcases hg.2 _ hk with h | h
  · exact (h4 x hx).2 h
  · have := (h4 x hx).1.inside
    omega
theorem DevRun.to {s' : DevS} {v : Value} {F : List Nat} {e : Ending} (h0 : B ≤ w.heap.size) (h1 : Below B w W) (h3 : ∀ k ∈ F, B ≤ k) (h4 : ∀ x ∈ L, Has W x.1 x.2.1 x.2.2 ∧ x.1 ∉ F) (h : DevTo q s' v F W e W') : e = .returned v ∧ DevRun B w q s' L W' := by
  obtain ⟨rfl, F', h5, h6⟩ := h
  exact ⟨rfl, DevRun.go h0 h1 h3 h4 h5 h6⟩
theorem DevRun.out (h : DevRun B w q s L W) : Below B w W := h.2.1
theorem DevRun.alloc (h : DevRun B w q s L W) (o : Obj) : DevRun B w q s L (W.alloc o) := h.below ((Below.refl _ _).alloc (Nat.le_refl _) _)
theorem DevRun.inside (h : DevRun B w q s L W) : q < W.heap.size := h.2.2.choose_spec.1.inside
/-- A new object besides. -/
theorem DevRun.made (h : DevRun B w q s L W) (t : TypeId) (cs : Array Value) : DevRun B w q s ((W.heap.size, t, cs) :: L) (W.alloc (.cells cs t)) := by
  obtain ⟨h0, h1, F, h2, h3, h4⟩ := h.alloc (.cells cs t)
  obtain ⟨_, _, G, g2, g3, g4⟩ := h
  have hb : Below W.heap.size W (W.alloc (.cells cs t)) := (Below.refl _ _).alloc (Nat.le_refl _) _
  refine ⟨h0, h1, G, (g2.goes hb).1, g3, fun x hx => ?_⟩
  rcases List.mem_cons.1 hx with rfl | hx
  · exact ⟨Has.made W t cs, fun hk => by have := g2.lt _ hk; simp at this⟩
  · exact ⟨(g4 x hx).1.below hb (g4 x hx).1.inside, (g4 x hx).2⟩
theorem DevRun.side (h : DevRun B w q s L W) {g : Nat} {t : TypeId} {cs : Array Value} (hx : (g, t, cs) ∈ L) : Has W g t cs := (h.2.2.choose_spec.2.2 _ hx).1
end

theorem new_run (n : Int) (w : World) (h1 : 1 ≤ n) (h2 : n ≤ 3000) : Calls Tryd.prog 11 #[.int .i64 n] w fun e w' => e = .returned (.tuple #[.pointer (some ⟨w.heap.size, 0, none⟩), .int .i64 0]) ∧ DevRun w.heap.size w w.heap.size (newS n) [] w' := by
  refine (new_ok n w h1 h2).mono ?_
  rintro e w1 ⟨rfl, hd, hb⟩
  exact ⟨rfl, Nat.le_refl _, hb, _, hd, by simp, by simp⟩
section
variable (B q : Nat) (w : World) (s : DevS) (L : List (Nat × TypeId × Array Value)) (W : World) (h : DevRun B w q s L W)
include h
theorem grow_run (n : Int) : Calls Tryd.prog 13 #[.pointer (some ⟨q, 0, none⟩), .int .i64 n] W fun e w' => e = .returned (.int .i64 (growAE s n)) ∧ DevRun B w q (growAS s n) L w' := by
  obtain ⟨h0, h1, F, h2, h3, h4⟩ := h
  exact (grow_any q s F n W h2).mono fun e w' ht => DevRun.to h0 h1 h3 h4 ht
theorem write_run (n : Int) (d : ByteArray) (hcap : s.cap ≤ 100000000000) : Calls Tryd.prog 15 #[.pointer (some ⟨q, 0, none⟩), .int .i64 n, .string d] W fun e w' => e = .returned (.int .i64 (writeE s n d)) ∧ DevRun B w q (writeS s n d) L w' := by
  obtain ⟨h0, h1, F, h2, h3, h4⟩ := h
  exact (write_any q s F n d W h2 hcap).mono fun e w' ht => DevRun.to h0 h1 h3 h4 ht
theorem choose_run : Calls Tryd.prog 18 #[.pointer (some ⟨q, 0, none⟩)] W fun e w' => e = .returned (.tuple #[chooseV s, .int .i64 (chooseE s)]) ∧ DevRun B w q s L w' := by
  have hh := h
  obtain ⟨h0, h1, F, h2, h3, h4⟩ := h
  refine (choose_any q s F W h2).mono ?_
  rintro e w' ⟨rfl, hb⟩
  exact ⟨rfl, hh.below hb⟩
end

/-- The page of a meta. -/
def mB (t r f p : Int) : ByteArray := ⟨(mpage t.toNat r.toNat f.toNat p.toNat).toArray⟩
theorem mB_size (t r f p : Int) : (mB t r f p).size = 256 := by show Array.size _ = 256; rw [List.size_toArray, mpage_len]
/-- What Write of a meta leaves. -/
theorem mwrite_run (B q : Nat) (w : World) (s : DevS) (L : List (Nat × TypeId × Array Value)) (W : World) (h : DevRun B w q s L W) (t r f p : Int) (ht : IsInt t) (hr : IsInt r) (hf : IsInt f) (hp : IsInt p) (hok : MetaOK t r f p) (hcap : s.cap ≤ 100000000000) :
    Calls Tryd.prog 17 #[.pointer (some ⟨q, 0, none⟩), metaV t r f p] W fun e w' => e = .returned (.int .i64 (writeE s (t % 2) (mB t r f p))) ∧ DevRun B w q (writeS s (t % 2) (mB t r f p)) L w' := by
  refine (mwrite_ok _ t r f p (writeE s (t % 2) (mB t r f p)) W (fun _ w' => DevRun B w q (writeS s (t % 2) (mB t r f p)) L w') ht hr hf hp hok (fun w1 hb => write_run B q w s L w1 (h.below hb) _ _ hcap)).mono ?_
  rintro e w' ⟨rfl, _, _, hq⟩
  exact ⟨rfl, hq⟩

/-- A device of two pages, X and Y, behind n writes. -/
structure Two (s : DevS) (X Y : ByteArray) (n : Nat) : Prop where
  idle : Idle s
  pages : s.pages = [X, Y]
  line : s.line.length ≤ n
  cap : s.cap ≤ 16 + 2 * n
  most : s.most = 2
section
variable {s : DevS} {X Y d : ByteArray} {n : Nat}
theorem Two.new : Two (longer (newS 2) 2) blank blank 0 := ⟨longer_idle (newS_idle 2) 2, rfl, Nat.le_refl _, by show (0 : Nat) ≤ _; omega, rfl⟩
theorem grown2 : growAE (newS 2) 2 = 0 ∧ growAS (newS 2) 2 = longer (newS 2) 2 := by
  rw [((newS_idle 2).grow 2).1, ((newS_idle 2).grow 2).2]
  exact ⟨rfl, rfl⟩
theorem Two.capIn (h : Two s X Y n) (hn : n ≤ 1000) : s.cap ≤ 100000000000 := by have := h.cap; omega
theorem Two.roomed (h : Two s X Y n) : roomed s.line s.cap ≤ 16 + 2 * (n + 1) := by
  have h1 := h.line
  have h2 := h.cap
  unfold Proofs.YthcpjpebahiikaaDoor.roomed
  split <;> omega
theorem Two.write0 (h : Two s X Y n) (hd : d.size = 256) : writeE s 0 d = 0 ∧ writeS s 0 d = wroteS s 0 d ∧ Two (wroteS s 0 d) d Y (n + 1) := by
  obtain ⟨a, b, c⟩ := h.idle.write (n := 0) (by omega) (by rw [h.pages]; simp) hd
  refine ⟨a, b, c, by simp [wroteS, h.pages], by simp [wroteS, h.line], ?_, h.most⟩
  have := h.roomed
  simpa [wroteS] using this
theorem Two.write1 (h : Two s X Y n) (hd : d.size = 256) : writeE s 1 d = 0 ∧ writeS s 1 d = wroteS s 1 d ∧ Two (wroteS s 1 d) X d (n + 1) := by
  obtain ⟨a, b, c⟩ := h.idle.write (n := 1) (by omega) (by rw [h.pages]; simp) hd
  refine ⟨a, b, c, by simp [wroteS, h.pages], by simp [wroteS, h.line], ?_, h.most⟩
  have := h.roomed
  simpa [wroteS] using this
theorem Two.choose (h : Two s X Y n) : chooseV s = choV 0 0 X.data.toList Y.data.toList ∧ chooseE s = choE 0 0 X.data.toList Y.data.toList := by
  unfold chooseV chooseE readE readB
  simp [h.idle.on, h.pages]
end

theorem mB_list (t r f p : Int) : (mB t r f p).data.toList = mpage t.toNat r.toNat f.toNat p.toNat := by simp [mB]
/-- What is told of a meta's page, at its place. -/
theorem mB_get {t r f p : Int} (h : MetaOK t r f p) {g : Int} (hg : t % 2 = g) : GetOK g (mB t r f p).data.toList ∧ getV g (mB t r f p).data.toList = metaV t r f p ∧ getN g (mB t r f p).data.toList 0 = t := by
  subst hg
  have h1 := put_get h
  rw [putB, if_pos h] at h1
  rw [mB_list]
  refine ⟨?_, h1.2⟩
  have h2 : GetOK ((t.toNat % 2 : Nat) : Int) (mpage t.toNat r.toNat f.toNat p.toNat) := mpage_get (by have := h.1.2; have := h.1.1; omega)
  rwa [show ((t.toNat % 2 : Nat) : Int) = t % 2 by have := h.1.1; omega] at h2
/-- The newest of two: the one on page 0, or the one on page 1. -/
theorem newest0 {t r f p : Int} (h : MetaOK t r f p) (hg : t % 2 = 0) {y : List UInt8} (hy : ¬ GetOK 1 y ∨ getN 1 y 0 < t) : choV 0 0 (mB t r f p).data.toList y = metaV t r f p ∧ choE 0 0 (mB t r f p).data.toList y = 0 := by
  obtain ⟨h1, h2, h3⟩ := mB_get h hg
  refine ⟨?_, choE_in (.inl h1)⟩
  rw [choV_first, h2]
  rintro ⟨h4, h5⟩
  have := h5 h1
  rw [h3] at this
  exact hy.elim (fun h => h h4) (fun h => by omega)
theorem newest1 {t r f p : Int} (h : MetaOK t r f p) (hg : t % 2 = 1) {x : List UInt8} (hx : ¬ GetOK 0 x ∨ getN 0 x 0 < t) : choV 0 0 x (mB t r f p).data.toList = metaV t r f p ∧ choE 0 0 x (mB t r f p).data.toList = 0 := by
  obtain ⟨h1, h2, h3⟩ := mB_get h hg
  refine ⟨?_, choE_in (.inr h1)⟩
  rw [choV_second h1, h2]
  intro h4
  rw [h3]
  exact hx.elim (fun h => absurd h4 h) id

/-- Write of a meta onto such a device. -/
theorem Two.mwrite {s : DevS} {X Y : ByteArray} {n : Nat} (h : Two s X Y n) (hn : n ≤ 1000) (t r f p : Int) (hok : MetaOK t r f p) :
    ∃ s', Two s' (if t % 2 = 0 then mB t r f p else X) (if t % 2 = 0 then Y else mB t r f p) (n + 1) ∧ s'.synced = s.synced ∧ s'.line = s.line ++ [(t % 2, mB t r f p)] ∧
      ∀ B q w L W, DevRun B w q s L W → Calls Tryd.prog 17 #[.pointer (some ⟨q, 0, none⟩), metaV t r f p] W fun e w' => e = .returned (.int .i64 0) ∧ DevRun B w q s' L w' := by
  obtain ⟨⟨a0, a1⟩, ⟨b0, b1⟩, ⟨c0, c1⟩, ⟨d0, d1⟩⟩ := hok
  have hok : MetaOK t r f p := ⟨⟨a0, a1⟩, ⟨b0, b1⟩, ⟨c0, c1⟩, ⟨d0, d1⟩⟩
  have hc := fun B q w L W hr => mwrite_run B q w s L W hr t r f p (by unfold IsInt; omega) (by unfold IsInt; omega) (by unfold IsInt; omega) (by unfold IsInt; omega) hok (h.capIn hn)
  by_cases hg : t % 2 = 0
  · obtain ⟨e1, e2, e3⟩ := h.write0 (mB_size t r f p)
    rw [hg, e1, e2] at hc
    rw [if_pos hg, if_pos hg, hg]
    exact ⟨_, e3, rfl, rfl, hc⟩
  · obtain ⟨e1, e2, e3⟩ := h.write1 (mB_size t r f p)
    have hg1 : t % 2 = 1 := by omega
    rw [hg1, e1, e2] at hc
    rw [if_neg hg, if_neg hg, hg1]
    exact ⟨_, e3, rfl, rfl, hc⟩
theorem Two.mchoose {s : DevS} {X Y : ByteArray} {n : Nat} (h : Two s X Y n) (B q : Nat) (w : World) (L : List (Nat × TypeId × Array Value)) (W : World) (hr : DevRun B w q s L W) :
    Calls Tryd.prog 18 #[.pointer (some ⟨q, 0, none⟩)] W fun e w' => e = .returned (.tuple #[choV 0 0 X.data.toList Y.data.toList, .int .i64 (choE 0 0 X.data.toList Y.data.toList)]) ∧ DevRun B w q s L w' := by
  have := choose_run B q w s L W hr
  rwa [h.choose.1, h.choose.2] at this
theorem grow2_run (B q : Nat) (w : World) (L : List (Nat × TypeId × Array Value)) (W : World) (hr : DevRun B w q (newS 2) L W) :
    Calls Tryd.prog 13 #[.pointer (some ⟨q, 0, none⟩), .int .i64 2] W fun e w' => e = .returned (.int .i64 0) ∧ DevRun B w q (longer (newS 2) 2) L w' := by
  have := grow_run B q w (newS 2) L W hr 2
  rwa [grown2.1, grown2.2] at this
end Go.Proofs.YthcpjpebahiikaaDoor

namespace Go.Proofs.YthcpjpebahiikaaDoor
open Go.RowKit Go.Lib

theorem filled_get (g : Int) : ¬ GetOK g (filledB 120 0).data.toList := by
  rintro ⟨h1, h2, -⟩
  rw [openK, if_pos h1] at h2
  have h3 : fld (filledB 120 0).data.toList 0 1 ≠ 1 := by decide +kernel
  omega

set_option maxRecDepth 100000 in
set_option maxHeartbeats 2000000 in
theorem alive_walk (w : World) : Calls Tryd.prog 4 #[] w fun e w' => e = .returned (.bool true) ∧ Below w.heap.size w w' := by
  have ok4 : MetaOK 4 2 0 0 := by unfold MetaOK Fits6; omega
  have ok5 : MetaOK 5 3 0 0 := by unfold MetaOK Fits6; omega
  obtain ⟨s1, t1, -, -, c1⟩ := Two.new.mwrite (by omega) 4 2 0 0 ok4
  replace t1 : Two s1 (mB 4 2 0 0) blank 1 := t1
  obtain ⟨s2, t2, -, -, c2⟩ := t1.mwrite (by omega) 5 3 0 0 ok5
  replace t2 : Two s2 (mB 4 2 0 0) (mB 5 3 0 0) 2 := t2
  obtain ⟨e1, e2, t3⟩ := t2.write1 (filledB_size 120 0)
  have c3 := fun B q w L W hr => write_run B q w s2 L W hr 1 (filledB 120 0) (t2.capIn (by omega))
  rw [e1, e2] at c3
  have v2 := t2.mchoose
  have n2 := newest1 ok5 (by decide) (x := (mB 4 2 0 0).data.toList) (.inr (by rw [(mB_get ok4 (by decide)).2.2]; decide))
  rw [n2.1, n2.2] at v2
  have v3 := t3.mchoose
  have n3 := newest0 ok4 (by decide) (y := (filledB 120 0).data.toList) (.inl (filled_get 1))
  rw [n3.1, n3.2] at v3
  have C1 := Lib.hid c1
  have C2 := Lib.hid c2
  have C3 := Lib.hid c3
  have V2 := Lib.hid v2
  have V3 := Lib.hid v3
  have HF := Lib.hid fun w => filledB_any 120 0 w (by omega)
  clear ok4 ok5 t1 t2 t3 c1 c2 c3 e1 e2 v2 v3 n2 n3
  unfold metaV at C1 C2 V2 V3
  generalize filledB 120 0 = Z at *
  generalize wroteS s2 1 Z = s3 at *
  go_enter Tryd.func4, Tryd.ntmps4
  go_wp2_with fail
  refine (new_run 2 w (by omega) (by omega)).mono ?_
  rintro e w1 ⟨rfl, hd⟩
  have H := Lib.hid hd
  clear hd
  go_wp2_with fail
  refine (grow2_run _ _ _ _ _ H.out).mono ?_
  rintro e w2 ⟨rfl, hd⟩
  have H2 := Lib.hid hd
  clear hd H
  go_wp2_with fail
  refine (C1.out _ _ _ _ _ H2.out).mono ?_
  rintro e w3 ⟨rfl, hd⟩
  have H3 := Lib.hid hd
  clear hd H2
  go_wp2_with fail
  refine (C2.out _ _ _ _ _ H3.out).mono ?_
  rintro e w4 ⟨rfl, hd⟩
  have H4 := Lib.hid hd
  clear hd H3
  go_wp2_with fail
  refine (V2.out _ _ _ _ _ H4.out).mono ?_
  rintro e w5 ⟨rfl, hd⟩
  have H5 := Lib.hid (hd.made 23 #[.int .i64 5, .int .i64 3, .int .i64 0, .int .i64 0])
  clear hd H4
  go_wp2_with fail
  refine (HF.out _).mono ?_
  rintro e w6 ⟨rfl, hb⟩
  have H6 := Lib.hid (H5.out.below hb)
  clear hb H5
  go_wp2_with fail
  refine (C3.out _ _ _ _ _ H6.out).mono ?_
  rintro e w7 ⟨rfl, hd⟩
  have H7 := Lib.hid hd
  clear hd H6
  go_wp2_with fail
  refine (V3.out _ _ _ _ _ H7.out).mono ?_
  rintro e w8 ⟨rfl, hd⟩
  have hm := hd.made 23 #[.int .i64 4, .int .i64 2, .int .i64 0, .int .i64 0]
  obtain ⟨⟨a0, a1, a2, a3⟩, -⟩ := (hm.side (.tail _ (.head _))).four
  obtain ⟨⟨b0, b1, b2, b3⟩, -⟩ := (hm.side (.head _)).four
  have H8 := Lib.hid hm.out
  clear hd H7 hm
  go_wp2_with (go_at_call 7; refine (place_any _ _).mono ?_; rintro e w9 ⟨rfl, rfl⟩)
  go_ret
  exact ⟨rfl, H8.out⟩
end Go.Proofs.YthcpjpebahiikaaDoor
