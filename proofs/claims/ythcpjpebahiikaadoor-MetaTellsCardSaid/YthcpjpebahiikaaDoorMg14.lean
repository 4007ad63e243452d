/-
  Walks over package meta: Place, and Get.
-/
import Derived.Test.YthcpjpebahiikaaDoorMg10
import Derived.Test.YthcpjpebahiikaaDoorMg12
import Derived.Test.YthcpjpebahiikaaDoorMg13
import Derived.Deep.RegionHeld3
namespace Go.Proofs.YthcpjpebahiikaaDoor
open Go.RowKit Go.Lib

set_option maxRecDepth 100000 in
theorem place_any (t : Int) (w : World) : Calls Tryd.prog 7 #[.int .i64 t] w fun e w' => e = .returned (.int .i64 (t % 2)) ∧ w = w' := by
  have h := i64_and1 t
  go_enter Tryd.func7, Tryd.ntmps7
  go_wp2
  go_ret
  exact ⟨rfl, rfl⟩

set_option maxRecDepth 100000 in
theorem number_any (s : ByteArray) (i : Nat) (w : World) (hs : s.size = 24) (hi : i < 4) :
    Calls Tryd.prog 26 #[.string s, .int .i64 i] w fun e w' => e = .returned (.int .i64 (six s.data.toList i)) ∧ w = w' := by
  have hu := fun w => unfix_ok s (6 * i) 6 w (by omega) (by omega) (by omega) (by omega)
  have e1 : ((6 * i : Nat) : Int) = (i : Int) * 6 := by omega
  rw [e1, show ((6 : Nat) : Int) = 6 from rfl] at hu
  have H := Lib.hid hu
  have hw : IntKind.i64.wrap ((i : Int) * 6) = (i : Int) * 6 := by rw [IntKind.wrap_i64]; omega
  unfold six fld
  clear hu
  go_enter Tryd.func26, Tryd.ntmps26
  go_wp2_with (go_at_call 44; refine (H.out _).mono ?_; rintro e w' ⟨rfl, rfl⟩)
  go_ret
  exact ⟨rfl, rfl⟩

/-- A meta is stored. -/
def metaSet (w : World) (g : Nat) (t r f p : Int) : World := (((w.setCell ⟨g, 0, none⟩ (.int .i64 t)).setCell ⟨g, 1, none⟩ (.int .i64 r)).setCell ⟨g, 2, none⟩ (.int .i64 f)).setCell ⟨g, 3, none⟩ (.int .i64 p)
theorem Has.metaSet {w : World} {g : Nat} {ty : TypeId} {a b c d : Value} (h : Has w g ty #[a, b, c, d]) (t r f p : Int) : Has (metaSet w g t r f p) g ty #[.int .i64 t, .int .i64 r, .int .i64 f, .int .i64 p] :=
  (((h.put 0 (.int .i64 t)).put 1 (.int .i64 r)).put 2 (.int .i64 f)).put 3 (.int .i64 p)
theorem Has.metaSet_past {w : World} {k g : Nat} {ty : TypeId} {cs : Array Value} (h : Has w k ty cs) (hk : k ≠ g) (t r f p : Int) : Has (Go.Proofs.YthcpjpebahiikaaDoor.metaSet w g t r f p) k ty cs :=
  (((h.past hk _).past hk _).past hk _).past hk _
theorem Has.drew {w : World} {g : Nat} {t : TypeId} {cs : Array Value} (h : Has w g t cs) : Has w.drew g t cs := h
theorem metaSet_below {B : Nat} {w w' : World} {g : Nat} (h : Below B w w') (hg : B ≤ g) (t r f p : Int) : Below B w (metaSet w' g t r f p) :=
  (((h.setCell (by simpa using hg) _).setCell (by simpa using hg) _).setCell (by simpa using hg) _).setCell (by simpa using hg) _
theorem metaSet_size (w : World) (g : Nat) (t r f p : Int) : (metaSet w g t r f p).heap.size = w.heap.size := by simp [metaSet]
/-- The four cells of a meta in memory. -/
theorem Has.four {w : World} {g : Nat} {t : TypeId} {a b c d : Value} (h : Has w g t #[a, b, c, d]) :
    (w.cell? ⟨g, 0, none⟩ = some a ∧ w.cell? ⟨g, 1, none⟩ = some b ∧ w.cell? ⟨g, 2, none⟩ = some c ∧ w.cell? ⟨g, 3, none⟩ = some d) ∧
      w.frozen? ⟨g, 0, none⟩ = false ∧ w.frozen? ⟨g, 1, none⟩ = false ∧ w.frozen? ⟨g, 2, none⟩ = false ∧ w.frozen? ⟨g, 3, none⟩ = false :=
  ⟨⟨h.cell 0, h.cell 1, h.cell 2, h.cell 3⟩, h.free 0, h.free 1, h.free 2, h.free 3⟩

set_option maxRecDepth 100000 in
set_option maxHeartbeats 1000000 in
theorem get_err (g K N E : Int) (b S : ByteArray) (w : World) (hO : ∀ w : World, Calls Tryd.prog 25 #[.int .i64 g, .string b] w fun e w' => e = .returned (.tuple #[.agg #[.int .i64 K, .int .i64 N, .string S], .int .i64 E]) ∧ Below w.heap.size w w') (hE : E ≠ 0) :
    Calls Tryd.prog 9 #[.int .i64 g, .string b] w fun e w' => e = .returned (.tuple #[metaV 0 0 0 0, .int .i64 E]) ∧ Below w.heap.size w w' := by
  have e1 : (E != 0) = true := by simpa using hE
  have HO := Lib.hid hO
  have hH : Has (w.alloc (.cells #[.int .i64 0, .int .i64 0, .int .i64 0, .int .i64 0] 23)) w.heap.size 23 #[.int .i64 0, .int .i64 0, .int .i64 0, .int .i64 0] := Has.made w _ _
  clear hO
  unfold metaV
  go_enter Tryd.func9, Tryd.ntmps9
  go_wp2_with fail
  refine (HO.out _).mono ?_
  rintro e w1 ⟨rfl, hb1⟩
  have hs1 := hb1.size
  simp at hs1
  have hH1 := (hH.below hb1 hH.inside).alloc (.cells #[.int .i64 K, .int .i64 N, .string S] 50)
  obtain ⟨⟨c0, c1, c2, c3⟩, f0, f1, f2, f3⟩ := hH1.four
  have HM := Lib.hid (And.intro (hH1.metaSet 0 0 0 0).four.1 (metaSet_below ((((Below.refl _ _).alloc (Nat.le_refl _) _).trans (hb1.mono (B' := w.heap.size) (by simp))).alloc (by omega) (.cells #[.int .i64 K, .int .i64 N, .string S] 50)) (Nat.le_refl _) 0 0 0 0))
  clear hH hH1 hb1
  go_wp2_with fail
  change bodyPost _ _ _ _ _ (metaSet _ _ _ _ _ _)
  obtain ⟨⟨k0, k1, k2, k3⟩, hb⟩ := HM.out
  clear HM c0 c1 c2 c3 f0 f1 f2 f3
  generalize metaSet _ _ _ _ _ _ = wz at *
  exact bodyPost_ret (v := .tuple #[.agg #[.int .i64 0, .int .i64 0, .int .i64 0, .int .i64 0], .int .i64 E]) (by simp [results, Tryd.results9, go_sem, k0, k1, k2, k3]) rfl ⟨rfl, hb⟩

set_option maxRecDepth 100000 in
set_option maxHeartbeats 3000000 in
theorem get_form (g K N : Int) (b S : ByteArray) (w : World) (hO : ∀ w : World, Calls Tryd.prog 25 #[.int .i64 g, .string b] w fun e w' => e = .returned (.tuple #[.agg #[.int .i64 K, .int .i64 N, .string S], .int .i64 0]) ∧ Below w.heap.size w w') 
    (h : (K != 1) = true ∨ (K != 1) = false ∧ (N != 0) = true ∨ (K != 1) = false ∧ (N != 0) = false ∧ ((S.size : Int) != 24) = true) :
    Calls Tryd.prog 9 #[.int .i64 g, .string b] w fun e w' => e = .returned (.tuple #[metaV 0 0 0 0, .int .i64 4]) ∧ Below w.heap.size w w' := by
  have HO := Lib.hid hO
  have hH : Has (w.alloc (.cells #[.int .i64 0, .int .i64 0, .int .i64 0, .int .i64 0] 23)) w.heap.size 23 #[.int .i64 0, .int .i64 0, .int .i64 0, .int .i64 0] := Has.made w _ _
  clear hO
  unfold metaV
  rcases h with h | ⟨h, h2⟩ | ⟨h, h2, h3⟩
  all_goals
    go_enter Tryd.func9, Tryd.ntmps9
    go_wp2_with fail
    refine (HO.out _).mono ?_
    rintro e w1 ⟨rfl, hb1⟩
    have hs1 := hb1.size
    simp at hs1
    have hH1 := (hH.below hb1 hH.inside).alloc (.cells #[.int .i64 K, .int .i64 N, .string S] 50)
    obtain ⟨⟨c0, c1, c2, c3⟩, f0, f1, f2, f3⟩ := hH1.four
    have HM := Lib.hid (And.intro (hH1.metaSet 0 0 0 0).four.1 (metaSet_below ((((Below.refl _ _).alloc (Nat.le_refl _) _).trans (hb1.mono (B' := w.heap.size) (by simp))).alloc (by omega) (.cells #[.int .i64 K, .int .i64 N, .string S] 50)) (Nat.le_refl _) 0 0 0 0))
    clear hH hH1 hb1
    go_wp2_with fail
    change bodyPost _ _ _ _ _ (metaSet _ _ _ _ _ _)
    obtain ⟨⟨k0, k1, k2, k3⟩, hb⟩ := HM.out
    clear HM c0 c1 c2 c3 f0 f1 f2 f3
    generalize metaSet _ _ _ _ _ _ = wz at *
    exact bodyPost_ret (v := .tuple #[.agg #[.int .i64 0, .int .i64 0, .int .i64 0, .int .i64 0], .int .i64 4]) (by simp [results, Tryd.results9, go_sem, k0, k1, k2, k3]) rfl ⟨rfl, hb⟩

set_option maxRecDepth 100000 in
set_option maxHeartbeats 3000000 in
theorem get_place (g v0 v1 v2 v3 : Int) (b S : ByteArray) (w : World) (hO : ∀ w : World, Calls Tryd.prog 25 #[.int .i64 g, .string b] w fun e w' => e = .returned (.tuple #[.agg #[.int .i64 1, .int .i64 0, .string S], .int .i64 0]) ∧ Below w.heap.size w w')
    (hS : (S.size : Int) = 24)
    (h0 : ∀ w, Calls Tryd.prog 26 #[.string S, .int .i64 0] w fun e w' => e = .returned (.int .i64 v0) ∧ w = w') (h1 : ∀ w, Calls Tryd.prog 26 #[.string S, .int .i64 1] w fun e w' => e = .returned (.int .i64 v1) ∧ w = w')
    (h2 : ∀ w, Calls Tryd.prog 26 #[.string S, .int .i64 2] w fun e w' => e = .returned (.int .i64 v2) ∧ w = w') (h3 : ∀ w, Calls Tryd.prog 26 #[.string S, .int .i64 3] w fun e w' => e = .returned (.int .i64 v3) ∧ w = w') (hp : (v0 % 2 != g) = true) :
    Calls Tryd.prog 9 #[.int .i64 g, .string b] w fun e w' => e = .returned (.tuple #[metaV 0 0 0 0, .int .i64 4]) ∧ Below w.heap.size w w' := by
  have HO := Lib.hid hO
  have H0 := Lib.hid h0
  have H1 := Lib.hid h1
  have H2 := Lib.hid h2
  have H3 := Lib.hid h3
  have hH : Has (w.alloc (.cells #[.int .i64 0, .int .i64 0, .int .i64 0, .int .i64 0] 23)) w.heap.size 23 #[.int .i64 0, .int .i64 0, .int .i64 0, .int .i64 0] := Has.made w _ _
  clear hO h0 h1 h2 h3
  unfold metaV
  go_enter Tryd.func9, Tryd.ntmps9
  go_wp2_with fail
  refine (HO.out _).mono ?_
  rintro e w1 ⟨rfl, hb1⟩
  have hs1 := hb1.size
  simp at hs1
  have hH1 := (hH.below hb1 hH.inside).alloc (.cells #[.int .i64 1, .int .i64 0, .string S] 50)
  have hB1 := (((Below.refl _ _).alloc (Nat.le_refl _) _).trans (hb1.mono (B' := w.heap.size) (by simp))).alloc (by omega) (.cells #[.int .i64 1, .int .i64 0, .string S] 50)
  have hp : (w1.alloc (.cells #[.int .i64 1, .int .i64 0, .string S] 50)).cell? ⟨w1.heap.size, 2, none⟩ = some (.string S) := (Has.made w1 50 #[.int .i64 1, .int .i64 0, .string S]).cell 2
  have HP := Lib.hid hp
  have HB1 := Lib.hid hB1
  have HH1 := Lib.hid hH1
  clear hH hp hB1 hH1
  go_wp2_with fail
  have hS := HP.out
  clear HP
  have hin : w1.heap.size < (w1.alloc (.cells #[.int .i64 1, .int .i64 0, .string S] 50)).heap.size := by simp
  generalize w1.alloc (.cells #[.int .i64 1, .int .i64 0, .string S] 50) = W0 at *
  have hSa : ∀ cs, (W0.alloc (.cells cs 23)).cell? ⟨w1.heap.size, 2, none⟩ = some (.string S) := fun cs => (Below.cell ((Below.refl W0.heap.size W0).alloc (Nat.le_refl _) _) hin).trans hS
  go_region_held3 (fun w' => w'.cell? ⟨w1.heap.size, 2, none⟩ = some (.string S)) (first | exact hS | exact hSa _) (first | (go_at_call 26; first | ((with_reducible refine (H0.out _).mono ?_); rintro e w2 ⟨rfl, rfl⟩) | ((with_reducible refine (H1.out _).mono ?_); rintro e w2 ⟨rfl, rfl⟩) | ((with_reducible refine (H2.out _).mono ?_); rintro e w2 ⟨rfl, rfl⟩) | ((with_reducible refine (H3.out _).mono ?_); rintro e w2 ⟨rfl, rfl⟩)))
  all_goals
    clear hS hSa
    have hM := (HH1.out.alloc (.cells #[.int .i64 v0, .int .i64 v1, .int .i64 v2, .int .i64 v3] 23)).drew
    have hT := (Has.made W0 23 #[.int .i64 v0, .int .i64 v1, .int .i64 v2, .int .i64 v3]).drew
    have hB := (HB1.out.alloc (by omega) (.cells #[.int .i64 v0, .int .i64 v1, .int .i64 v2, .int .i64 v3] 23)).drew
    generalize (W0.alloc (.cells #[.int .i64 v0, .int .i64 v1, .int .i64 v2, .int .i64 v3] 23)).drew = W2 at *
    have HM := Lib.hid (And.intro (hM.metaSet 0 0 0 0).four.1 (metaSet_below hB (Nat.le_refl _) 0 0 0 0))
    obtain ⟨⟨c0, c1, c2, c3⟩, f0, f1, f2, f3⟩ := hM.four
    obtain ⟨⟨d0, d1, d2, d3⟩, -⟩ := hT.four
    clear hM hT hB HH1 HB1
    go_wp2_with (go_at_call 7; refine (place_any _ _).mono ?_; rintro e w3 ⟨rfl, rfl⟩)
    change bodyPost _ _ _ _ _ (metaSet _ _ _ _ _ _)
    obtain ⟨⟨k0, k1, k2, k3⟩, hb⟩ := HM.out
    clear HM c0 c1 c2 c3 f0 f1 f2 f3 d0 d1 d2 d3
    generalize metaSet _ _ _ _ _ _ = wz at *
    exact bodyPost_ret (v := .tuple #[.agg #[.int .i64 0, .int .i64 0, .int .i64 0, .int .i64 0], .int .i64 4]) (by simp [results, Tryd.results9, go_sem, k0, k1, k2, k3]) rfl ⟨rfl, hb⟩

set_option maxRecDepth 100000 in
set_option maxHeartbeats 3000000 in
theorem get_ok (g v0 v1 v2 v3 : Int) (b S : ByteArray) (w : World) (hO : ∀ w : World, Calls Tryd.prog 25 #[.int .i64 g, .string b] w fun e w' => e = .returned (.tuple #[.agg #[.int .i64 1, .int .i64 0, .string S], .int .i64 0]) ∧ Below w.heap.size w w')
    (hS : (S.size : Int) = 24)
    (h0 : ∀ w, Calls Tryd.prog 26 #[.string S, .int .i64 0] w fun e w' => e = .returned (.int .i64 v0) ∧ w = w') (h1 : ∀ w, Calls Tryd.prog 26 #[.string S, .int .i64 1] w fun e w' => e = .returned (.int .i64 v1) ∧ w = w')
    (h2 : ∀ w, Calls Tryd.prog 26 #[.string S, .int .i64 2] w fun e w' => e = .returned (.int .i64 v2) ∧ w = w') (h3 : ∀ w, Calls Tryd.prog 26 #[.string S, .int .i64 3] w fun e w' => e = .returned (.int .i64 v3) ∧ w = w') (hp : (v0 % 2 != g) = false) :
    Calls Tryd.prog 9 #[.int .i64 g, .string b] w fun e w' => e = .returned (.tuple #[metaV v0 v1 v2 v3, .int .i64 0]) ∧ Below w.heap.size w w' := by
  have HO := Lib.hid hO
  have H0 := Lib.hid h0
  have H1 := Lib.hid h1
  have H2 := Lib.hid h2
  have H3 := Lib.hid h3
  have hH : Has (w.alloc (.cells #[.int .i64 0, .int .i64 0, .int .i64 0, .int .i64 0] 23)) w.heap.size 23 #[.int .i64 0, .int .i64 0, .int .i64 0, .int .i64 0] := Has.made w _ _
  clear hO h0 h1 h2 h3
  unfold metaV
  go_enter Tryd.func9, Tryd.ntmps9
  go_wp2_with fail
  refine (HO.out _).mono ?_
  rintro e w1 ⟨rfl, hb1⟩
  have hs1 := hb1.size
  simp at hs1
  have hH1 := (hH.below hb1 hH.inside).alloc (.cells #[.int .i64 1, .int .i64 0, .string S] 50)
  have hB1 := (((Below.refl _ _).alloc (Nat.le_refl _) _).trans (hb1.mono (B' := w.heap.size) (by simp))).alloc (by omega) (.cells #[.int .i64 1, .int .i64 0, .string S] 50)
  have hp : (w1.alloc (.cells #[.int .i64 1, .int .i64 0, .string S] 50)).cell? ⟨w1.heap.size, 2, none⟩ = some (.string S) := (Has.made w1 50 #[.int .i64 1, .int .i64 0, .string S]).cell 2
  have HP := Lib.hid hp
  have HB1 := Lib.hid hB1
  have HH1 := Lib.hid hH1
  clear hH hp hB1 hH1
  go_wp2_with fail
  have hS := HP.out
  clear HP
  have hin : w1.heap.size < (w1.alloc (.cells #[.int .i64 1, .int .i64 0, .string S] 50)).heap.size := by simp
  generalize w1.alloc (.cells #[.int .i64 1, .int .i64 0, .string S] 50) = W0 at *
  have hSa : ∀ cs, (W0.alloc (.cells cs 23)).cell? ⟨w1.heap.size, 2, none⟩ = some (.string S) := fun cs => (Below.cell ((Below.refl W0.heap.size W0).alloc (Nat.le_refl _) _) hin).trans hS
  go_region_held3 (fun w' => w'.cell? ⟨w1.heap.size, 2, none⟩ = some (.string S)) (first | exact hS | exact hSa _) (first | (go_at_call 26; first | ((with_reducible refine (H0.out _).mono ?_); rintro e w2 ⟨rfl, rfl⟩) | ((with_reducible refine (H1.out _).mono ?_); rintro e w2 ⟨rfl, rfl⟩) | ((with_reducible refine (H2.out _).mono ?_); rintro e w2 ⟨rfl, rfl⟩) | ((with_reducible refine (H3.out _).mono ?_); rintro e w2 ⟨rfl, rfl⟩)))
  all_goals
    clear hS hSa
    have hM := (HH1.out.alloc (.cells #[.int .i64 v0, .int .i64 v1, .int .i64 v2, .int .i64 v3] 23)).drew
    have hT := (Has.made W0 23 #[.int .i64 v0, .int .i64 v1, .int .i64 v2, .int .i64 v3]).drew
    have hB := (HB1.out.alloc (by omega) (.cells #[.int .i64 v0, .int .i64 v1, .int .i64 v2, .int .i64 v3] 23)).drew
    generalize (W0.alloc (.cells #[.int .i64 v0, .int .i64 v1, .int .i64 v2, .int .i64 v3] 23)).drew = W2 at *
    have HM := Lib.hid (And.intro (hM.metaSet v0 v1 v2 v3).four.1 (metaSet_below hB (Nat.le_refl _) v0 v1 v2 v3))
    obtain ⟨⟨c0, c1, c2, c3⟩, f0, f1, f2, f3⟩ := hM.four
    obtain ⟨⟨d0, d1, d2, d3⟩, -⟩ := hT.four
    clear hM hT hB HH1 HB1
    go_wp2_with (go_at_call 7; refine (place_any _ _).mono ?_; rintro e w3 ⟨rfl, rfl⟩)
    change bodyPost _ _ _ _ _ (metaSet _ _ _ _ _ _)
    obtain ⟨⟨k0, k1, k2, k3⟩, hb⟩ := HM.out
    clear HM c0 c1 c2 c3 f0 f1 f2 f3 d0 d1 d2 d3
    generalize metaSet _ _ _ _ _ _ = wz at *
    exact bodyPost_ret (v := .tuple #[.agg #[.int .i64 v0, .int .i64 v1, .int .i64 v2, .int .i64 v3], .int .i64 0]) (by simp [results, Tryd.results9, go_sem, k0, k1, k2, k3]) rfl ⟨rfl, hb⟩

/-- What Get tells, of any bytes. -/
theorem get_any (g : Int) (b : ByteArray) (w : World) : Calls Tryd.prog 9 #[.int .i64 g, .string b] w fun e w' => e = .returned (.tuple #[getV g b.data.toList, .int .i64 (getE g b.data.toList)]) ∧ Below w.heap.size w w' := by
  have hO := fun w => open_any g b w
  have hlen : (⟨(openS g b.data.toList).toArray⟩ : ByteArray).size = (openS g b.data.toList).length := by show Array.size _ = _; simp
  have hdata : (⟨(openS g b.data.toList).toArray⟩ : ByteArray).data.toList = openS g b.data.toList := by simp
  unfold openV at hO
  generalize hS : (⟨(openS g b.data.toList).toArray⟩ : ByteArray) = S at *
  by_cases hE : openE g b.data.toList = 0
  · by_cases h1 : openK g b.data.toList = 1 ∧ openN g b.data.toList = 0 ∧ (openS g b.data.toList).length = 24
    · obtain ⟨hk, hn, hl⟩ := h1
      rw [hE, hk, hn] at hO
      have h0 := fun w => number_any S 0 w (by omega) (by omega)
      have h1 := fun w => number_any S 1 w (by omega) (by omega)
      have h2 := fun w => number_any S 2 w (by omega) (by omega)
      have h3 := fun w => number_any S 3 w (by omega) (by omega)
      rw [hdata] at h0 h1 h2 h3
      by_cases hp : (six (openS g b.data.toList) 0 : Int) % 2 = g
      · have hg : GetOK g b.data.toList := ⟨hE, hk, hn, hl, hp⟩
        rw [getE_ok hg]
        unfold getV getN
        rw [if_pos hg, if_pos hg, if_pos hg, if_pos hg]
        exact get_ok g _ _ _ _ b S w hO (by omega) h0 h1 h2 h3 (by simp [hp])
      · have hg : ¬ GetOK g b.data.toList := fun h => hp h.2.2.2.2
        rw [(get_bad hg).1, getE, if_neg (fun h => h hE), if_neg hg]
        exact get_place g _ _ _ _ b S w hO (by omega) h0 h1 h2 h3 (by simpa using hp)
    · have hg : ¬ GetOK g b.data.toList := fun h => h1 ⟨h.2.1, h.2.2.1, h.2.2.2.1⟩
      rw [(get_bad hg).1, getE, if_neg (fun h => h hE), if_neg hg]
      rw [hE] at hO
      refine get_form g _ _ b S w hO ?_
      by_cases hk : openK g b.data.toList = 1
      · by_cases hn : openN g b.data.toList = 0
        · exact .inr (.inr ⟨by simp [hk], by simp [hn], by have : ¬ S.size = 24 := fun e => h1 ⟨hk, hn, by omega⟩; simp; omega⟩)
        · exact .inr (.inl ⟨by simp [hk], by simp; omega⟩)
      · exact .inl (by simp; omega)
  · have hg : ¬ GetOK g b.data.toList := fun h => hE h.1
    rw [(get_bad hg).1, getE, if_pos hE]
    exact get_err g _ _ _ b S w hO hE
end Go.Proofs.YthcpjpebahiikaaDoor
