/-
  The document's own answers of chapter 5: Choose, of two pages.
-/
import Derived.Test.YthcpjpebahiikaaDoorMg26
import Derived.Test.YthcpjpebahiikaaDoorMg34
namespace Go.Proofs.YthcpjpebahiikaaDoor
open Go.RowKit Go.Lib

def RGetTo (i : Int) (b : ByteArray) (t r f p E : Int) : Prop :=
  ∀ w' : World, Calls Tryd.prog 10 #[.int .i64 i, .string b] w' fun e w'' => e = .returned (.tuple #[.agg #[.int .i64 t, .int .i64 r, .int .i64 f, .int .i64 p], .int .i64 E]) ∧ Below w'.heap.size w' w''
theorem rgetTo_yes {i : Int} {b : ByteArray} (hi : IsInt i) (h : GetOK i b.data.toList) : RGetTo i b (getN i b.data.toList 0) (getN i b.data.toList 1) (getN i b.data.toList 2) (getN i b.data.toList 3) 0 := by
  intro w
  have := refGetMeta_any i b w hi
  rwa [getE_ok h] at this
theorem rgetTo_no {i : Int} {b : ByteArray} (hi : IsInt i) (h : ¬ GetOK i b.data.toList) : RGetTo i b 0 0 0 0 (getE i b.data.toList) := by
  intro w
  have := refGetMeta_any i b w hi
  rwa [(get_bad h).1] at this

set_option maxRecDepth 100000 in
set_option maxHeartbeats 4000000 in
theorem rcho_none (a b : ByteArray) (a0 a1 a2 a3 c0 c1 c2 c3 E0 E1 : Int) (w : World) (hG0 : RGetTo 0 a 0 0 0 0 E0) (hG1 : RGetTo 1 b 0 0 0 0 E1) (hE0 : (E0 != 0) = true) (hE1 : (E1 != 0) = true) :
    Calls Tryd.prog 38 #[.string a, .string b] w fun e w' => e = .returned (.tuple #[.agg #[.int .i64 0, .int .i64 0, .int .i64 0, .int .i64 0], .int .i64 15]) ∧ Below w.heap.size w w' := by
  have HG0 := Lib.hid hG0
  have HG1 := Lib.hid hG1
  have hH : Has (w.alloc metaZ) w.heap.size 23 #[.int .i64 0, .int .i64 0, .int .i64 0, .int .i64 0] := Has.made w _ _
  clear hG0 hG1
  go_enter Tryd.func38, Tryd.ntmps38
  go_wp2_with fail
  refine (HG0.out _).mono ?_
  rintro e w1 ⟨rfl, hb1⟩
  have hs1 := hb1.size
  simp at hs1
  have h1 := And.intro ((hH.below hb1 hH.inside).alloc (metaO 0 0 0 0)) (And.intro (Has.made w1 23 #[.int .i64 0, .int .i64 0, .int .i64 0, .int .i64 0]) ((((Below.refl w.heap.size w).alloc (Nat.le_refl _) metaZ).trans (hb1.mono (B' := w.heap.size) (by simp))).alloc (by omega) (metaO 0 0 0 0)))
  have hz1 : (w1.alloc (metaO 0 0 0 0)).heap.size = w1.heap.size + 1 := by simp
  have H1 := Lib.hid h1
  clear hH hb1 h1
  go_upto_region 2 with fail
  change Code.wp _ _ _ _ (w1.alloc (metaO 0 0 0 0))
  generalize w1.alloc (metaO 0 0 0 0) = W1 at *
  go_wp2_with fail
  refine (HG1.out _).mono ?_
  rintro e w2 ⟨rfl, hb2⟩
  have hs2 := hb2.size
  have h2 := And.intro ((H1.out.1.below hb2 H1.out.1.inside).alloc (metaO 0 0 0 0)) (And.intro ((H1.out.2.1.below hb2 H1.out.2.1.inside).alloc (metaO 0 0 0 0)) (And.intro (Has.made w2 23 #[.int .i64 0, .int .i64 0, .int .i64 0, .int .i64 0]) ((H1.out.2.2.trans (hb2.mono (B' := w.heap.size) (by omega))).alloc (by omega) (metaO 0 0 0 0))))
  clear H1 hb2
  go_upto_region 3 with fail
  change Code.wp _ _ _ _ (w2.alloc (metaO 0 0 0 0))
  generalize w2.alloc (metaO 0 0 0 0) = W2 at *
  obtain ⟨hA, hM, hN, hB⟩ := h2
  obtain ⟨⟨p0, p1, p2, p3⟩, g0, g1, g2, g3⟩ := hA.four
  obtain ⟨⟨m0, m1, m2, m3⟩, -⟩ := hM.four
  obtain ⟨⟨n0, n1, n2, n3⟩, -⟩ := hN.four
  have HE := Lib.hid (And.intro (hA.metaSet 0 0 0 0).four.1 (metaSet_below hB (Nat.le_refl _) 0 0 0 0))
  clear hA hM hN hB
  go_wp2_with fail
  change bodyPost _ _ _ _ _ (metaSet W2 w.heap.size 0 0 0 0)
  obtain ⟨⟨k0, k1, k2, k3⟩, hb⟩ := HE.out
  clear HE p0 p1 p2 p3 g0 g1 g2 g3 m0 m1 m2 m3 n0 n1 n2 n3
  generalize metaSet _ _ _ _ _ _ = wz at *
  exact bodyPost_ret (v := .tuple #[.agg #[.int .i64 0, .int .i64 0, .int .i64 0, .int .i64 0], .int .i64 15]) (by simp [results, Tryd.results38, go_sem, k0, k1, k2, k3]) rfl ⟨rfl, hb⟩

set_option maxRecDepth 100000 in
set_option maxHeartbeats 4000000 in
theorem rcho_second (a b : ByteArray) (a0 a1 a2 a3 c0 c1 c2 c3 E0 E1 : Int) (w : World) (hG0 : RGetTo 0 a 0 0 0 0 E0) (hG1 : RGetTo 1 b c0 c1 c2 c3 0) (hE0 : (E0 != 0) = true) :
    Calls Tryd.prog 38 #[.string a, .string b] w fun e w' => e = .returned (.tuple #[.agg #[.int .i64 c0, .int .i64 c1, .int .i64 c2, .int .i64 c3], .int .i64 0]) ∧ Below w.heap.size w w' := by
  have HG0 := Lib.hid hG0
  have HG1 := Lib.hid hG1
  have hH : Has (w.alloc metaZ) w.heap.size 23 #[.int .i64 0, .int .i64 0, .int .i64 0, .int .i64 0] := Has.made w _ _
  clear hG0 hG1
  go_enter Tryd.func38, Tryd.ntmps38
  go_wp2_with fail
  refine (HG0.out _).mono ?_
  rintro e w1 ⟨rfl, hb1⟩
  have hs1 := hb1.size
  simp at hs1
  have h1 := And.intro ((hH.below hb1 hH.inside).alloc (metaO 0 0 0 0)) (And.intro (Has.made w1 23 #[.int .i64 0, .int .i64 0, .int .i64 0, .int .i64 0]) ((((Below.refl w.heap.size w).alloc (Nat.le_refl _) metaZ).trans (hb1.mono (B' := w.heap.size) (by simp))).alloc (by omega) (metaO 0 0 0 0)))
  have hz1 : (w1.alloc (metaO 0 0 0 0)).heap.size = w1.heap.size + 1 := by simp
  have H1 := Lib.hid h1
  clear hH hb1 h1
  go_upto_region 2 with fail
  change Code.wp _ _ _ _ (w1.alloc (metaO 0 0 0 0))
  generalize w1.alloc (metaO 0 0 0 0) = W1 at *
  go_wp2_with fail
  refine (HG1.out _).mono ?_
  rintro e w2 ⟨rfl, hb2⟩
  have hs2 := hb2.size
  have h2 := And.intro ((H1.out.1.below hb2 H1.out.1.inside).alloc (metaO c0 c1 c2 c3)) (And.intro ((H1.out.2.1.below hb2 H1.out.2.1.inside).alloc (metaO c0 c1 c2 c3)) (And.intro (Has.made w2 23 #[.int .i64 c0, .int .i64 c1, .int .i64 c2, .int .i64 c3]) ((H1.out.2.2.trans (hb2.mono (B' := w.heap.size) (by omega))).alloc (by omega) (metaO c0 c1 c2 c3))))
  clear H1 hb2
  go_upto_region 3 with fail
  change Code.wp _ _ _ _ (w2.alloc (metaO c0 c1 c2 c3))
  generalize w2.alloc (metaO c0 c1 c2 c3) = W2 at *
  obtain ⟨hA, hM, hN, hB⟩ := h2
  obtain ⟨⟨p0, p1, p2, p3⟩, g0, g1, g2, g3⟩ := hA.four
  obtain ⟨⟨m0, m1, m2, m3⟩, -⟩ := hM.four
  obtain ⟨⟨n0, n1, n2, n3⟩, -⟩ := hN.four
  have HE := Lib.hid (And.intro (hA.metaSet c0 c1 c2 c3).four.1 (metaSet_below hB (Nat.le_refl _) c0 c1 c2 c3))
  clear hA hM hN hB
  go_wp2_with fail
  change bodyPost _ _ _ _ _ (metaSet W2 w.heap.size c0 c1 c2 c3)
  obtain ⟨⟨k0, k1, k2, k3⟩, hb⟩ := HE.out
  clear HE p0 p1 p2 p3 g0 g1 g2 g3 m0 m1 m2 m3 n0 n1 n2 n3
  generalize metaSet _ _ _ _ _ _ = wz at *
  exact bodyPost_ret (v := .tuple #[.agg #[.int .i64 c0, .int .i64 c1, .int .i64 c2, .int .i64 c3], .int .i64 0]) (by simp [results, Tryd.results38, go_sem, k0, k1, k2, k3]) rfl ⟨rfl, hb⟩

set_option maxRecDepth 100000 in
set_option maxHeartbeats 4000000 in
theorem rcho_first (a b : ByteArray) (a0 a1 a2 a3 c0 c1 c2 c3 E0 E1 : Int) (w : World) (hG0 : RGetTo 0 a a0 a1 a2 a3 0) (hG1 : RGetTo 1 b 0 0 0 0 E1) (hE1 : (E1 != 0) = true) :
    Calls Tryd.prog 38 #[.string a, .string b] w fun e w' => e = .returned (.tuple #[.agg #[.int .i64 a0, .int .i64 a1, .int .i64 a2, .int .i64 a3], .int .i64 0]) ∧ Below w.heap.size w w' := by
  have HG0 := Lib.hid hG0
  have HG1 := Lib.hid hG1
  have hH : Has (w.alloc metaZ) w.heap.size 23 #[.int .i64 0, .int .i64 0, .int .i64 0, .int .i64 0] := Has.made w _ _
  clear hG0 hG1
  go_enter Tryd.func38, Tryd.ntmps38
  go_wp2_with fail
  refine (HG0.out _).mono ?_
  rintro e w1 ⟨rfl, hb1⟩
  have hs1 := hb1.size
  simp at hs1
  have h1 := And.intro ((hH.below hb1 hH.inside).alloc (metaO a0 a1 a2 a3)) (And.intro (Has.made w1 23 #[.int .i64 a0, .int .i64 a1, .int .i64 a2, .int .i64 a3]) ((((Below.refl w.heap.size w).alloc (Nat.le_refl _) metaZ).trans (hb1.mono (B' := w.heap.size) (by simp))).alloc (by omega) (metaO a0 a1 a2 a3)))
  have hz1 : (w1.alloc (metaO a0 a1 a2 a3)).heap.size = w1.heap.size + 1 := by simp
  have H1 := Lib.hid h1
  clear hH hb1 h1
  go_upto_region 2 with fail
  change Code.wp _ _ _ _ (w1.alloc (metaO a0 a1 a2 a3))
  generalize w1.alloc (metaO a0 a1 a2 a3) = W1 at *
  go_wp2_with fail
  refine (HG1.out _).mono ?_
  rintro e w2 ⟨rfl, hb2⟩
  have hs2 := hb2.size
  have h2 := And.intro ((H1.out.1.below hb2 H1.out.1.inside).alloc (metaO 0 0 0 0)) (And.intro ((H1.out.2.1.below hb2 H1.out.2.1.inside).alloc (metaO 0 0 0 0)) (And.intro (Has.made w2 23 #[.int .i64 0, .int .i64 0, .int .i64 0, .int .i64 0]) ((H1.out.2.2.trans (hb2.mono (B' := w.heap.size) (by omega))).alloc (by omega) (metaO 0 0 0 0))))
  clear H1 hb2
  go_upto_region 3 with fail
  change Code.wp _ _ _ _ (w2.alloc (metaO 0 0 0 0))
  generalize w2.alloc (metaO 0 0 0 0) = W2 at *
  obtain ⟨hA, hM, hN, hB⟩ := h2
  obtain ⟨⟨p0, p1, p2, p3⟩, g0, g1, g2, g3⟩ := hA.four
  obtain ⟨⟨m0, m1, m2, m3⟩, -⟩ := hM.four
  obtain ⟨⟨n0, n1, n2, n3⟩, -⟩ := hN.four
  have HE := Lib.hid (And.intro (hA.metaSet a0 a1 a2 a3).four.1 (metaSet_below hB (Nat.le_refl _) a0 a1 a2 a3))
  clear hA hM hN hB
  go_wp2_with fail
  change bodyPost _ _ _ _ _ (metaSet W2 w.heap.size a0 a1 a2 a3)
  obtain ⟨⟨k0, k1, k2, k3⟩, hb⟩ := HE.out
  clear HE p0 p1 p2 p3 g0 g1 g2 g3 m0 m1 m2 m3 n0 n1 n2 n3
  generalize metaSet _ _ _ _ _ _ = wz at *
  exact bodyPost_ret (v := .tuple #[.agg #[.int .i64 a0, .int .i64 a1, .int .i64 a2, .int .i64 a3], .int .i64 0]) (by simp [results, Tryd.results38, go_sem, k0, k1, k2, k3]) rfl ⟨rfl, hb⟩

set_option maxRecDepth 100000 in
set_option maxHeartbeats 4000000 in
theorem rcho_keep (a b : ByteArray) (a0 a1 a2 a3 c0 c1 c2 c3 E0 E1 : Int) (w : World) (hG0 : RGetTo 0 a a0 a1 a2 a3 0) (hG1 : RGetTo 1 b c0 c1 c2 c3 0) (hlt : c0 < a0) :
    Calls Tryd.prog 38 #[.string a, .string b] w fun e w' => e = .returned (.tuple #[.agg #[.int .i64 a0, .int .i64 a1, .int .i64 a2, .int .i64 a3], .int .i64 0]) ∧ Below w.heap.size w w' := by
  have HG0 := Lib.hid hG0
  have HG1 := Lib.hid hG1
  have hH : Has (w.alloc metaZ) w.heap.size 23 #[.int .i64 0, .int .i64 0, .int .i64 0, .int .i64 0] := Has.made w _ _
  clear hG0 hG1
  go_enter Tryd.func38, Tryd.ntmps38
  go_wp2_with fail
  refine (HG0.out _).mono ?_
  rintro e w1 ⟨rfl, hb1⟩
  have hs1 := hb1.size
  simp at hs1
  have h1 := And.intro ((hH.below hb1 hH.inside).alloc (metaO a0 a1 a2 a3)) (And.intro (Has.made w1 23 #[.int .i64 a0, .int .i64 a1, .int .i64 a2, .int .i64 a3]) ((((Below.refl w.heap.size w).alloc (Nat.le_refl _) metaZ).trans (hb1.mono (B' := w.heap.size) (by simp))).alloc (by omega) (metaO a0 a1 a2 a3)))
  have hz1 : (w1.alloc (metaO a0 a1 a2 a3)).heap.size = w1.heap.size + 1 := by simp
  have H1 := Lib.hid h1
  clear hH hb1 h1
  go_upto_region 2 with fail
  change Code.wp _ _ _ _ (w1.alloc (metaO a0 a1 a2 a3))
  generalize w1.alloc (metaO a0 a1 a2 a3) = W1 at *
  go_wp2_with fail
  refine (HG1.out _).mono ?_
  rintro e w2 ⟨rfl, hb2⟩
  have hs2 := hb2.size
  have h2 := And.intro ((H1.out.1.below hb2 H1.out.1.inside).alloc (metaO c0 c1 c2 c3)) (And.intro ((H1.out.2.1.below hb2 H1.out.2.1.inside).alloc (metaO c0 c1 c2 c3)) (And.intro (Has.made w2 23 #[.int .i64 c0, .int .i64 c1, .int .i64 c2, .int .i64 c3]) ((H1.out.2.2.trans (hb2.mono (B' := w.heap.size) (by omega))).alloc (by omega) (metaO c0 c1 c2 c3))))
  clear H1 hb2
  go_upto_region 3 with fail
  change Code.wp _ _ _ _ (w2.alloc (metaO c0 c1 c2 c3))
  generalize w2.alloc (metaO c0 c1 c2 c3) = W2 at *
  obtain ⟨hA, hM, hN, hB⟩ := h2
  obtain ⟨⟨p0, p1, p2, p3⟩, g0, g1, g2, g3⟩ := hA.four
  obtain ⟨⟨m0, m1, m2, m3⟩, -⟩ := hM.four
  obtain ⟨⟨n0, n1, n2, n3⟩, -⟩ := hN.four
  have HE := Lib.hid (And.intro (hA.metaSet a0 a1 a2 a3).four.1 (metaSet_below hB (Nat.le_refl _) a0 a1 a2 a3))
  clear hA hM hN hB
  go_wp2_with fail
  change bodyPost _ _ _ _ _ (metaSet W2 w.heap.size a0 a1 a2 a3)
  obtain ⟨⟨k0, k1, k2, k3⟩, hb⟩ := HE.out
  clear HE p0 p1 p2 p3 g0 g1 g2 g3 m0 m1 m2 m3 n0 n1 n2 n3
  generalize metaSet _ _ _ _ _ _ = wz at *
  exact bodyPost_ret (v := .tuple #[.agg #[.int .i64 a0, .int .i64 a1, .int .i64 a2, .int .i64 a3], .int .i64 0]) (by simp [results, Tryd.results38, go_sem, k0, k1, k2, k3]) rfl ⟨rfl, hb⟩

set_option maxRecDepth 100000 in
set_option maxHeartbeats 4000000 in
theorem rcho_newer (a b : ByteArray) (a0 a1 a2 a3 c0 c1 c2 c3 E0 E1 : Int) (w : World) (hG0 : RGetTo 0 a a0 a1 a2 a3 0) (hG1 : RGetTo 1 b c0 c1 c2 c3 0) (hlt : ¬ c0 < a0) :
    Calls Tryd.prog 38 #[.string a, .string b] w fun e w' => e = .returned (.tuple #[.agg #[.int .i64 c0, .int .i64 c1, .int .i64 c2, .int .i64 c3], .int .i64 0]) ∧ Below w.heap.size w w' := by
  have HG0 := Lib.hid hG0
  have HG1 := Lib.hid hG1
  have hH : Has (w.alloc metaZ) w.heap.size 23 #[.int .i64 0, .int .i64 0, .int .i64 0, .int .i64 0] := Has.made w _ _
  clear hG0 hG1
  go_enter Tryd.func38, Tryd.ntmps38
  go_wp2_with fail
  refine (HG0.out _).mono ?_
  rintro e w1 ⟨rfl, hb1⟩
  have hs1 := hb1.size
  simp at hs1
  have h1 := And.intro ((hH.below hb1 hH.inside).alloc (metaO a0 a1 a2 a3)) (And.intro (Has.made w1 23 #[.int .i64 a0, .int .i64 a1, .int .i64 a2, .int .i64 a3]) ((((Below.refl w.heap.size w).alloc (Nat.le_refl _) metaZ).trans (hb1.mono (B' := w.heap.size) (by simp))).alloc (by omega) (metaO a0 a1 a2 a3)))
  have hz1 : (w1.alloc (metaO a0 a1 a2 a3)).heap.size = w1.heap.size + 1 := by simp
  have H1 := Lib.hid h1
  clear hH hb1 h1
  go_upto_region 2 with fail
  change Code.wp _ _ _ _ (w1.alloc (metaO a0 a1 a2 a3))
  generalize w1.alloc (metaO a0 a1 a2 a3) = W1 at *
  go_wp2_with fail
  refine (HG1.out _).mono ?_
  rintro e w2 ⟨rfl, hb2⟩
  have hs2 := hb2.size
  have h2 := And.intro ((H1.out.1.below hb2 H1.out.1.inside).alloc (metaO c0 c1 c2 c3)) (And.intro ((H1.out.2.1.below hb2 H1.out.2.1.inside).alloc (metaO c0 c1 c2 c3)) (And.intro (Has.made w2 23 #[.int .i64 c0, .int .i64 c1, .int .i64 c2, .int .i64 c3]) ((H1.out.2.2.trans (hb2.mono (B' := w.heap.size) (by omega))).alloc (by omega) (metaO c0 c1 c2 c3))))
  clear H1 hb2
  go_upto_region 3 with fail
  change Code.wp _ _ _ _ (w2.alloc (metaO c0 c1 c2 c3))
  generalize w2.alloc (metaO c0 c1 c2 c3) = W2 at *
  obtain ⟨hA, hM, hN, hB⟩ := h2
  obtain ⟨⟨p0, p1, p2, p3⟩, g0, g1, g2, g3⟩ := hA.four
  obtain ⟨⟨m0, m1, m2, m3⟩, -⟩ := hM.four
  obtain ⟨⟨n0, n1, n2, n3⟩, -⟩ := hN.four
  have HE := Lib.hid (And.intro (hA.metaSet c0 c1 c2 c3).four.1 (metaSet_below hB (Nat.le_refl _) c0 c1 c2 c3))
  clear hA hM hN hB
  go_wp2_with fail
  change bodyPost _ _ _ _ _ (metaSet W2 w.heap.size c0 c1 c2 c3)
  obtain ⟨⟨k0, k1, k2, k3⟩, hb⟩ := HE.out
  clear HE p0 p1 p2 p3 g0 g1 g2 g3 m0 m1 m2 m3 n0 n1 n2 n3
  generalize metaSet _ _ _ _ _ _ = wz at *
  exact bodyPost_ret (v := .tuple #[.agg #[.int .i64 c0, .int .i64 c1, .int .i64 c2, .int .i64 c3], .int .i64 0]) (by simp [results, Tryd.results38, go_sem, k0, k1, k2, k3]) rfl ⟨rfl, hb⟩

/-- What the document's Choose tells of two pages. -/
theorem refChoose_any (a b : ByteArray) (w : World) :
    Calls Tryd.prog 38 #[.string a, .string b] w fun e w' => e = .returned (.tuple #[choV 0 0 a.data.toList b.data.toList, .int .i64 (choE 0 0 a.data.toList b.data.toList)]) ∧ Below w.heap.size w w' := by
  have i0 : IsInt 0 := by unfold IsInt; omega
  have i1 : IsInt 1 := by unfold IsInt; omega
  by_cases g0 : GetOK 0 a.data.toList
  · rw [choE_in (.inl g0)]
    by_cases g1 : GetOK 1 b.data.toList
    · by_cases hlt : getN 0 a.data.toList 0 < getN 1 b.data.toList 0
      · rw [choV_second g1 (fun _ => hlt)]
        exact rcho_newer a b _ _ _ _ _ _ _ _ 0 0 w (rgetTo_yes i0 g0) (rgetTo_yes i1 g1) (by omega)
      · rw [choV_first (fun h => hlt (h.2 g0))]
        refine rcho_keep a b _ _ _ _ _ _ _ _ 0 0 w (rgetTo_yes i0 g0) (rgetTo_yes i1 g1) ?_
        have e0 := g0.2.2.2.2
        have e1 := g1.2.2.2.2
        have f0 : getN 0 a.data.toList 0 = six (openS 0 a.data.toList) 0 := by rw [getN, if_pos g0]
        have f1 : getN 1 b.data.toList 0 = six (openS 1 b.data.toList) 0 := by rw [getN, if_pos g1]
        omega
    · rw [choV_first (fun h => g1 h.1)]
      exact rcho_first a b _ _ _ _ 0 0 0 0 0 _ w (rgetTo_yes i0 g0) (rgetTo_no i1 g1) (by simpa using (get_bad g1).2)
  · by_cases g1 : GetOK 1 b.data.toList
    · rw [choE_in (.inr g1), choV_second g1 (fun h => absurd h g0)]
      exact rcho_second a b 0 0 0 0 _ _ _ _ _ 0 w (rgetTo_no i0 g0) (rgetTo_yes i1 g1) (by simpa using (get_bad g0).2)
    · rw [choE_none g0 g1, choV_first (fun h => g1 h.1), (get_bad g0).1]
      exact rcho_none a b 0 0 0 0 0 0 0 0 _ _ w (rgetTo_no i0 g0) (rgetTo_no i1 g1) (by simpa using (get_bad g0).2) (by simpa using (get_bad g1).2)
end Go.Proofs.YthcpjpebahiikaaDoor
