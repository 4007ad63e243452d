/-
  Walks over package meta: Place, and Get. Walks over package meta: Put. The document's own answers of chapter 5: Place, PutMeta.
-/
import Derived.Test.YthcpjpebahiikaaDoorMg5
import Derived.Test.YthcpjpebahiikaaDoorMg6
import Derived.Test.YthcpjpebahiikaaDoorMg7
import Derived.Deep.RegionHeld3
namespace Go.Proofs.YthcpjpebahiikaaDoor
open Go.RowKit Go.Lib

set_option maxRecDepth 100000 in
theorem place_any (t : Int) (w : World) : Calls Tryd.prog 7 #[.int .i64 t] w fun e w' => e = .returned (.int .i64 (t % 2)) ∧ w = w' := by
  have h := i64_and1 t
  go_enter Tryd.func7, Tryd.ntmps7
  go_wp2
  go_ret
  exact ⟨rfl, rfl⟩

set_option maxRecDepth 100000 in
theorem number_any (s : ByteArray) (i : Nat) (w : World) (hs : s.size = 24) (hi : i < 4) :
    Calls Tryd.prog 26 #[.string s, .int .i64 i] w fun e w' => e = .returned (.int .i64 (six s.data.toList i)) ∧ w = w' := by
  have hu := fun w => unfix_ok s (6 * i) 6 w (by omega) (by omega) (by omega) (by omega)
  have e1 : ((6 * i : Nat) : Int) = (i : Int) * 6 := by omega
  rw [e1, show ((6 : Nat) : Int) = 6 from rfl] at hu
  have H := Lib.hid hu
  have hw : IntKind.i64.wrap ((i : Int) * 6) = (i : Int) * 6 := by rw [IntKind.wrap_i64]; omega
  unfold six fld
  clear hu
  go_enter Tryd.func26, Tryd.ntmps26
  go_wp2_with (go_at_call 44; refine (H.out _).mono ?_; rintro e w' ⟨rfl, rfl⟩)
  go_ret
  exact ⟨rfl, rfl⟩

/-- A meta is stored. -/
def metaSet (w : World) (g : Nat) (t r f p : Int) : World := (((w.setCell ⟨g, 0, none⟩ (.int .i64 t)).setCell ⟨g, 1, none⟩ (.int .i64 r)).setCell ⟨g, 2, none⟩ (.int .i64 f)).setCell ⟨g, 3, none⟩ (.int .i64 p)
theorem Has.metaSet {w : World} {g : Nat} {ty : TypeId} {a b c d : Value} (h : Has w g ty #[a, b, c, d]) (t r f p : Int) : Has (metaSet w g t r f p) g ty #[.int .i64 t, .int .i64 r, .int .i64 f, .int .i64 p] :=
  (((h.put 0 (.int .i64 t)).put 1 (.int .i64 r)).put 2 (.int .i64 f)).put 3 (.int .i64 p)
theorem Has.metaSet_past {w : World} {k g : Nat} {ty : TypeId} {cs : Array Value} (h : Has w k ty cs) (hk : k ≠ g) (t r f p : Int) : Has (Go.Proofs.YthcpjpebahiikaaDoor.metaSet w g t r f p) k ty cs :=
  (((h.past hk _).past hk _).past hk _).past hk _
theorem Has.drew {w : World} {g : Nat} {t : TypeId} {cs : Array Value} (h : Has w g t cs) : Has w.drew g t cs := h
theorem metaSet_below {B : Nat} {w w' : World} {g : Nat} (h : Below B w w') (hg : B ≤ g) (t r f p : Int) : Below B w (metaSet w' g t r f p) :=
  (((h.setCell (by simpa using hg) _).setCell (by simpa using hg) _).setCell (by simpa using hg) _).setCell (by simpa using hg) _
theorem metaSet_size (w : World) (g : Nat) (t r f p : Int) : (metaSet w g t r f p).heap.size = w.heap.size := by simp [metaSet]
/-- The four cells of a meta in memory. -/
theorem Has.four {w : World} {g : Nat} {t : TypeId} {a b c d : Value} (h : Has w g t #[a, b, c, d]) :
    (w.cell? ⟨g, 0, none⟩ = some a ∧ w.cell? ⟨g, 1, none⟩ = some b ∧ w.cell? ⟨g, 2, none⟩ = some c ∧ w.cell? ⟨g, 3, none⟩ = some d) ∧
      w.frozen? ⟨g, 0, none⟩ = false ∧ w.frozen? ⟨g, 1, none⟩ = false ∧ w.frozen? ⟨g, 2, none⟩ = false ∧ w.frozen? ⟨g, 3, none⟩ = false :=
  ⟨⟨h.cell 0, h.cell 1, h.cell 2, h.cell 3⟩, h.free 0, h.free 1, h.free 2, h.free 3⟩

set_option maxRecDepth 100000 in
set_option maxHeartbeats 1000000 in
theorem get_err (g K N E : Int) (b S : ByteArray) (w : World) (hO : ∀ w : World, Calls Tryd.prog 25 #[.int .i64 g, .string b] w fun e w' => e = .returned (.tuple #[.agg #[.int .i64 K, .int .i64 N, .string S], .int .i64 E]) ∧ Below w.heap.size w w') (hE : E ≠ 0) :
    Calls Tryd.prog 9 #[.int .i64 g, .string b] w fun e w' => e = .returned (.tuple #[metaV 0 0 0 0, .int .i64 E]) ∧ Below w.heap.size w w' := by
  have e1 : (E != 0) = true := by simpa using hE
  have HO := Lib.hid hO
  have hH : Has (w.alloc (.cells #[.int .i64 0, .int .i64 0, .int .i64 0, .int .i64 0] 23)) w.heap.size 23 #[.int .i64 0, .int .i64 0, .int .i64 0, .int .i64 0] := Has.made w _ _
  clear hO
  unfold metaV
  go_enter Tryd.func9, Tryd.ntmps9
  go_wp2_with fail
  refine (HO.out _).mono ?_
  rintro e w1 ⟨rfl, hb1⟩
  have hs1 := hb1.size
  simp at hs1
  have hH1 := (hH.below hb1 hH.inside).alloc (.cells #[.int .i64 K, .int .i64 N, .string S] 50)
  obtain ⟨⟨c0, c1, c2, c3⟩, f0, f1, f2, f3⟩ := hH1.four
  have HM := Lib.hid (And.intro (hH1.metaSet 0 0 0 0).four.1 (metaSet_below ((((Below.refl _ _).alloc (Nat.le_refl _) _).trans (hb1.mono (B' := w.heap.size) (by simp))).alloc (by omega) (.cells #[.int .i64 K, .int .i64 N, .string S] 50)) (Nat.le_refl _) 0 0 0 0))
  clear hH hH1 hb1
  go_wp2_with fail
  change bodyPost _ _ _ _ _ (metaSet _ _ _ _ _ _)
  obtain ⟨⟨k0, k1, k2, k3⟩, hb⟩ := HM.out
  clear HM c0 c1 c2 c3 f0 f1 f2 f3
  generalize metaSet _ _ _ _ _ _ = wz at *
  exact bodyPost_ret (v := .tuple #[.agg #[.int .i64 0, .int .i64 0, .int .i64 0, .int .i64 0], .int .i64 E]) (by simp [results, Tryd.results9, go_sem, k0, k1, k2, k3]) rfl ⟨rfl, hb⟩

set_option maxRecDepth 100000 in
set_option maxHeartbeats 3000000 in
theorem get_form (g K N : Int) (b S : ByteArray) (w : World) (hO : ∀ w : World, Calls Tryd.prog 25 #[.int .i64 g, .string b] w fun e w' => e = .returned (.tuple #[.agg #[.int .i64 K, .int .i64 N, .string S], .int .i64 0]) ∧ Below w.heap.size w w') 
    (h : (K != 1) = true ∨ (K != 1) = false ∧ (N != 0) = true ∨ (K != 1) = false ∧ (N != 0) = false ∧ ((S.size : Int) != 24) = true) :
    Calls Tryd.prog 9 #[.int .i64 g, .string b] w fun e w' => e = .returned (.tuple #[metaV 0 0 0 0, .int .i64 4]) ∧ Below w.heap.size w w' := by
  have HO := Lib.hid hO
  have hH : Has (w.alloc (.cells #[.int .i64 0, .int .i64 0, .int .i64 0, .int .i64 0] 23)) w.heap.size 23 #[.int .i64 0, .int .i64 0, .int .i64 0, .int .i64 0] := Has.made w _ _
  clear hO
  unfold metaV
  rcases h with h | ⟨h, h2⟩ | ⟨h, h2, h3⟩
  all_goals
    go_enter Tryd.func9, Tryd.ntmps9
    go_wp2_with fail
    refine (HO.out _).mono ?_
    rintro e w1 ⟨rfl, hb1⟩
    have hs1 := hb1.size
    simp at hs1
    have hH1 := (hH.below hb1 hH.inside).alloc (.cells #[.int .i64 K, .int .i64 N, .string S] 50)
    obtain ⟨⟨c0, c1, c2, c3⟩, f0, f1, f2, f3⟩ := hH1.four
    have HM := Lib.hid (And.intro (hH1.metaSet 0 0 0 0).four.1 (metaSet_below ((((Below.refl _ _).alloc (Nat.le_refl _) _).trans (hb1.mono (B' := w.heap.size) (by simp))).alloc (by omega) (.cells #[.int .i64 K, .int .i64 N, .string S] 50)) (Nat.le_refl _) 0 0 0 0))
    clear hH hH1 hb1
    go_wp2_with fail
    change bodyPost _ _ _ _ _ (metaSet _ _ _ _ _ _)
    obtain ⟨⟨k0, k1, k2, k3⟩, hb⟩ := HM.out
    clear HM c0 c1 c2 c3 f0 f1 f2 f3
    generalize metaSet _ _ _ _ _ _ = wz at *
    exact bodyPost_ret (v := .tuple #[.agg #[.int .i64 0, .int .i64 0, .int .i64 0, .int .i64 0], .int .i64 4]) (by simp [results, Tryd.results9, go_sem, k0, k1, k2, k3]) rfl ⟨rfl, hb⟩

set_option maxRecDepth 100000 in
set_option maxHeartbeats 3000000 in
theorem get_place (g v0 v1 v2 v3 : Int) (b S : ByteArray) (w : World) (hO : ∀ w : World, Calls Tryd.prog 25 #[.int .i64 g, .string b] w fun e w' => e = .returned (.tuple #[.agg #[.int .i64 1, .int .i64 0, .string S], .int .i64 0]) ∧ Below w.heap.size w w')
    (hS : (S.size : Int) = 24)
    (h0 : ∀ w, Calls Tryd.prog 26 #[.string S, .int .i64 0] w fun e w' => e = .returned (.int .i64 v0) ∧ w = w') (h1 : ∀ w, Calls Tryd.prog 26 #[.string S, .int .i64 1] w fun e w' => e = .returned (.int .i64 v1) ∧ w = w')
    (h2 : ∀ w, Calls Tryd.prog 26 #[.string S, .int .i64 2] w fun e w' => e = .returned (.int .i64 v2) ∧ w = w') (h3 : ∀ w, Calls Tryd.prog 26 #[.string S, .int .i64 3] w fun e w' => e = .returned (.int .i64 v3) ∧ w = w') (hp : (v0 % 2 != g) = true) :
    Calls Tryd.prog 9 #[.int .i64 g, .string b] w fun e w' => e = .returned (.tuple #[metaV 0 0 0 0, .int .i64 4]) ∧ Below w.heap.size w w' := by
  have HO := Lib.hid hO
  have H0 := Lib.hid h0
  have H1 := Lib.hid h1
  have H2 := Lib.hid h2
  have H3 := Lib.hid h3
  have hH : Has (w.alloc (.cells #[.int .i64 0, .int .i64 0, .int .i64 0, .int .i64 0] 23)) w.heap.size 23 #[.int .i64 0, .int .i64 0, .int .i64 0, .int .i64 0] := Has.made w _ _
  clear hO h0 h1 h2 h3
  unfold metaV
  go_enter Tryd.func9, Tryd.ntmps9
  go_wp2_with fail
  refine (HO.out _).mono ?_
  rintro e w1 ⟨rfl, hb1⟩
  have hs1 := hb1.size
  simp at hs1
  have hH1 := (hH.below hb1 hH.inside).alloc (.cells #[.int .i64 1, .int .i64 0, .string S] 50)
  have hB1 := (((Below.refl _ _).alloc (Nat.le_refl _) _).trans (hb1.mono (B' := w.heap.size) (by simp))).alloc (by omega) (.cells #[.int .i64 1, .int .i64 0, .string S] 50)
  have hp : (w1.alloc (.cells #[.int .i64 1, .int .i64 0, .string S] 50)).cell? ⟨w1.heap.size, 2, none⟩ = some (.string S) := (Has.made w1 50 #[.int .i64 1, .int .i64 0, .string S]).cell 2
  have HP := Lib.hid hp
  have HB1 := Lib.hid hB1
  have HH1 := Lib.hid hH1
  clear hH hp hB1 hH1
  go_wp2_with fail
  have hS := HP.out
  clear HP
  have hin : w1.heap.size < (w1.alloc (.cells #[.int .i64 1, .int .i64 0, .string S] 50)).heap.size := by simp
  generalize w1.alloc (.cells #[.int .i64 1, .int .i64 0, .string S] 50) = W0 at *
  have hSa : ∀ cs, (W0.alloc (.cells cs 23)).cell? ⟨w1.heap.size, 2, none⟩ = some (.string S) := fun cs => (Below.cell ((Below.refl W0.heap.size W0).alloc (Nat.le_refl _) _) hin).trans hS
  go_region_held3 (fun w' => w'.cell? ⟨w1.heap.size, 2, none⟩ = some (.string S)) (first | exact hS | exact hSa _) (first | (go_at_call 26; first | ((with_reducible refine (H0.out _).mono ?_); rintro e w2 ⟨rfl, rfl⟩) | ((with_reducible refine (H1.out _).mono ?_); rintro e w2 ⟨rfl, rfl⟩) | ((with_reducible refine (H2.out _).mono ?_); rintro e w2 ⟨rfl, rfl⟩) | ((with_reducible refine (H3.out _).mono ?_); rintro e w2 ⟨rfl, rfl⟩)))
  all_goals
    clear hS hSa
    have hM := (HH1.out.alloc (.cells #[.int .i64 v0, .int .i64 v1, .int .i64 v2, .int .i64 v3] 23)).drew
    have hT := (Has.made W0 23 #[.int .i64 v0, .int .i64 v1, .int .i64 v2, .int .i64 v3]).drew
    have hB := (HB1.out.alloc (by omega) (.cells #[.int .i64 v0, .int .i64 v1, .int .i64 v2, .int .i64 v3] 23)).drew
    generalize (W0.alloc (.cells #[.int .i64 v0, .int .i64 v1, .int .i64 v2, .int .i64 v3] 23)).drew = W2 at *
    have HM := Lib.hid (And.intro (hM.metaSet 0 0 0 0).four.1 (metaSet_below hB (Nat.le_refl _) 0 0 0 0))
    obtain ⟨⟨c0, c1, c2, c3⟩, f0, f1, f2, f3⟩ := hM.four
    obtain ⟨⟨d0, d1, d2, d3⟩, -⟩ := hT.four
    clear hM hT hB HH1 HB1
    go_wp2_with (go_at_call 7; refine (place_any _ _).mono ?_; rintro e w3 ⟨rfl, rfl⟩)
    change bodyPost _ _ _ _ _ (metaSet _ _ _ _ _ _)
    obtain ⟨⟨k0, k1, k2, k3⟩, hb⟩ := HM.out
    clear HM c0 c1 c2 c3 f0 f1 f2 f3 d0 d1 d2 d3
    generalize metaSet _ _ _ _ _ _ = wz at *
    exact bodyPost_ret (v := .tuple #[.agg #[.int .i64 0, .int .i64 0, .int .i64 0, .int .i64 0], .int .i64 4]) (by simp [results, Tryd.results9, go_sem, k0, k1, k2, k3]) rfl ⟨rfl, hb⟩

set_option maxRecDepth 100000 in
set_option maxHeartbeats 3000000 in
theorem get_ok (g v0 v1 v2 v3 : Int) (b S : ByteArray) (w : World) (hO : ∀ w : World, Calls Tryd.prog 25 #[.int .i64 g, .string b] w fun e w' => e = .returned (.tuple #[.agg #[.int .i64 1, .int .i64 0, .string S], .int .i64 0]) ∧ Below w.heap.size w w')
    (hS : (S.size : Int) = 24)
    (h0 : ∀ w, Calls Tryd.prog 26 #[.string S, .int .i64 0] w fun e w' => e = .returned (.int .i64 v0) ∧ w = w') (h1 : ∀ w, Calls Tryd.prog 26 #[.string S, .int .i64 1] w fun e w' => e = .returned (.int .i64 v1) ∧ w = w')
    (h2 : ∀ w, Calls Tryd.prog 26 #[.string S, .int .i64 2] w fun e w' => e = .returned (.int .i64 v2) ∧ w = w') (h3 : ∀ w, Calls Tryd.prog 26 #[.string S, .int .i64 3] w fun e w' => e = .returned (.int .i64 v3) ∧ w = w') (hp : (v0 % 2 != g) = false) :
    Calls Tryd.prog 9 #[.int .i64 g, .string b] w fun e w' => e = .returned (.tuple #[metaV v0 v1 v2 v3, .int .i64 0]) ∧ Below w.heap.size w w' := by
  have HO := Lib.hid hO
  have H0 := Lib.hid h0
  have H1 := Lib.hid h1
  have H2 := Lib.hid h2
  have H3 := Lib.hid h3
  have hH : Has (w.alloc (.cells #[.int .i64 0, .int .i64 0, .int .i64 0, .int .i64 0] 23)) w.heap.size 23 #[.int .i64 0, .int .i64 0, .int .i64 0, .int .i64 0] := Has.made w _ _
  clear hO h0 h1 h2 h3
  unfold metaV
  go_enter Tryd.func9, Tryd.ntmps9
  go_wp2_with fail
  refine (HO.out _).mono ?_
  rintro e w1 ⟨rfl, hb1⟩
  have hs1 := hb1.size
  simp at hs1
  have hH1 := (hH.below hb1 hH.inside).alloc (.cells #[.int .i64 1, .int .i64 0, .string S] 50)
  have hB1 := (((Below.refl _ _).alloc (Nat.le_refl _) _).trans (hb1.mono (B' := w.heap.size) (by simp))).alloc (by omega) (.cells #[.int .i64 1, .int .i64 0, .string S] 50)
  have hp : (w1.alloc (.cells #[.int .i64 1, .int .i64 0, .string S] 50)).cell? ⟨w1.heap.size, 2, none⟩ = some (.string S) := (Has.made w1 50 #[.int .i64 1, .int .i64 0, .string S]).cell 2
  have HP := Lib.hid hp
  have HB1 := Lib.hid hB1
  have HH1 := Lib.hid hH1
  clear hH hp hB1 hH1
  go_wp2_with fail
  have hS := HP.out
  clear HP
  have hin : w1.heap.size < (w1.alloc (.cells #[.int .i64 1, .int .i64 0, .string S] 50)).heap.size := by simp
  generalize w1.alloc (.cells #[.int .i64 1, .int .i64 0, .string S] 50) = W0 at *
  have hSa : ∀ cs, (W0.alloc (.cells cs 23)).cell? ⟨w1.heap.size, 2, none⟩ = some (.string S) := fun cs => (Below.cell ((Below.refl W0.heap.size W0).alloc (Nat.le_refl _) _) hin).trans hS
  go_region_held3 (fun w' => w'.cell? ⟨w1.heap.size, 2, none⟩ = some (.string S)) (first | exact hS | exact hSa _) (first | (go_at_call 26; first | ((with_reducible refine (H0.out _).mono ?_); rintro e w2 ⟨rfl, rfl⟩) | ((with_reducible refine (H1.out _).mono ?_); rintro e w2 ⟨rfl, rfl⟩) | ((with_reducible refine (H2.out _).mono ?_); rintro e w2 ⟨rfl, rfl⟩) | ((with_reducible refine (H3.out _).mono ?_); rintro e w2 ⟨rfl, rfl⟩)))
  all_goals
    clear hS hSa
    have hM := (HH1.out.alloc (.cells #[.int .i64 v0, .int .i64 v1, .int .i64 v2, .int .i64 v3] 23)).drew
    have hT := (Has.made W0 23 #[.int .i64 v0, .int .i64 v1, .int .i64 v2, .int .i64 v3]).drew
    have hB := (HB1.out.alloc (by omega) (.cells #[.int .i64 v0, .int .i64 v1, .int .i64 v2, .int .i64 v3] 23)).drew
    generalize (W0.alloc (.cells #[.int .i64 v0, .int .i64 v1, .int .i64 v2, .int .i64 v3] 23)).drew = W2 at *
    have HM := Lib.hid (And.intro (hM.metaSet v0 v1 v2 v3).four.1 (metaSet_below hB (Nat.le_refl _) v0 v1 v2 v3))
    obtain ⟨⟨c0, c1, c2, c3⟩, f0, f1, f2, f3⟩ := hM.four
    obtain ⟨⟨d0, d1, d2, d3⟩, -⟩ := hT.four
    clear hM hT hB HH1 HB1
    go_wp2_with (go_at_call 7; refine (place_any _ _).mono ?_; rintro e w3 ⟨rfl, rfl⟩)
    change bodyPost _ _ _ _ _ (metaSet _ _ _ _ _ _)
    obtain ⟨⟨k0, k1, k2, k3⟩, hb⟩ := HM.out
    clear HM c0 c1 c2 c3 f0 f1 f2 f3 d0 d1 d2 d3
    generalize metaSet _ _ _ _ _ _ = wz at *
    exact bodyPost_ret (v := .tuple #[.agg #[.int .i64 v0, .int .i64 v1, .int .i64 v2, .int .i64 v3], .int .i64 0]) (by simp [results, Tryd.results9, go_sem, k0, k1, k2, k3]) rfl ⟨rfl, hb⟩

/-- What Get tells, of any bytes. -/
theorem get_any (g : Int) (b : ByteArray) (w : World) : Calls Tryd.prog 9 #[.int .i64 g, .string b] w fun e w' => e = .returned (.tuple #[getV g b.data.toList, .int .i64 (getE g b.data.toList)]) ∧ Below w.heap.size w w' := by
  have hO := fun w => open_any g b w
  have hlen : (⟨(openS g b.data.toList).toArray⟩ : ByteArray).size = (openS g b.data.toList).length := by show Array.size _ = _; simp
  have hdata : (⟨(openS g b.data.toList).toArray⟩ : ByteArray).data.toList = openS g b.data.toList := by simp
  unfold openV at hO
  generalize hS : (⟨(openS g b.data.toList).toArray⟩ : ByteArray) = S at *
  by_cases hE : openE g b.data.toList = 0
  · by_cases h1 : openK g b.data.toList = 1 ∧ openN g b.data.toList = 0 ∧ (openS g b.data.toList).length = 24
    · obtain ⟨hk, hn, hl⟩ := h1
      rw [hE, hk, hn] at hO
      have h0 := fun w => number_any S 0 w (by omega) (by omega)
      have h1 := fun w => number_any S 1 w (by omega) (by omega)
      have h2 := fun w => number_any S 2 w (by omega) (by omega)
      have h3 := fun w => number_any S 3 w (by omega) (by omega)
      rw [hdata] at h0 h1 h2 h3
      by_cases hp : (six (openS g b.data.toList) 0 : Int) % 2 = g
      · have hg : GetOK g b.data.toList := ⟨hE, hk, hn, hl, hp⟩
        rw [getE_ok hg]
        unfold getV getN
        rw [if_pos hg, if_pos hg, if_pos hg, if_pos hg]
        exact get_ok g _ _ _ _ b S w hO (by omega) h0 h1 h2 h3 (by simp [hp])
      · have hg : ¬ GetOK g b.data.toList := fun h => hp h.2.2.2.2
        rw [(get_bad hg).1, getE, if_neg (fun h => h hE), if_neg hg]
        exact get_place g _ _ _ _ b S w hO (by omega) h0 h1 h2 h3 (by simpa using hp)
    · have hg : ¬ GetOK g b.data.toList := fun h => h1 ⟨h.2.1, h.2.2.1, h.2.2.2.1⟩
      rw [(get_bad hg).1, getE, if_neg (fun h => h hE), if_neg hg]
      rw [hE] at hO
      refine get_form g _ _ b S w hO ?_
      by_cases hk : openK g b.data.toList = 1
      · by_cases hn : openN g b.data.toList = 0
        · exact .inr (.inr ⟨by simp [hk], by simp [hn], by have : ¬ S.size = 24 := fun e => h1 ⟨hk, hn, by omega⟩; simp; omega⟩)
        · exact .inr (.inl ⟨by simp [hk], by simp; omega⟩)
      · exact .inl (by simp; omega)
  · have hg : ¬ GetOK g b.data.toList := fun h => hE h.1
    rw [(get_bad hg).1, getE, if_pos hE]
    exact get_err g _ _ _ b S w hO hE
end Go.Proofs.YthcpjpebahiikaaDoor

namespace Go.Proofs.YthcpjpebahiikaaDoor
open Go.RowKit Go.Lib

/-- The numbers of a meta, one behind the other. -/
theorem arr4 (a b c d : Int) : (∀ w : World, (Instr.index 46 (.agg #[.int .i64 a, .int .i64 b, .int .i64 c, .int .i64 d]) (.int .i64 0)).run Tryd.prog w = .ok (.int .i64 a) w) ∧
    (∀ w : World, (Instr.index 46 (.agg #[.int .i64 a, .int .i64 b, .int .i64 c, .int .i64 d]) (.int .i64 1)).run Tryd.prog w = .ok (.int .i64 b) w) ∧
    (∀ w : World, (Instr.index 46 (.agg #[.int .i64 a, .int .i64 b, .int .i64 c, .int .i64 d]) (.int .i64 2)).run Tryd.prog w = .ok (.int .i64 c) w) ∧
    (∀ w : World, (Instr.index 46 (.agg #[.int .i64 a, .int .i64 b, .int .i64 c, .int .i64 d]) (.int .i64 3)).run Tryd.prog w = .ok (.int .i64 d) w) :=
  ⟨fun _ => by kernel_rfl, fun _ => by kernel_rfl, fun _ => by kernel_rfl, fun _ => by kernel_rfl⟩
/-- What is called with a number of a meta. -/
def FixTo (t : Int) (X : ByteArray) (E : Int) : Prop := ∀ w : World, Calls Tryd.prog 21 #[.int .i64 t, .int .i64 6] w fun e w' => e = .returned (.tuple #[.string X, .int .i64 E]) ∧ Below w.heap.size w w'

set_option maxRecDepth 100000 in
set_option maxHeartbeats 4000000 in
theorem put_first (t r f p E : Int) (X : ByteArray) (w : World) (h0 : FixTo t X E) (hE : (E != 0) = true) :
    Calls Tryd.prog 5 #[metaV t r f p] w fun e w' => e = .returned (.tuple #[.string ByteArray.empty, .int .i64 E]) ∧ Below w.heap.size w w' := by
  have H0 := Lib.hid h0
  clear h0
  obtain ⟨i0, i1, i2, i3⟩ := arr4 t r f p
  unfold metaV
  go_enter Tryd.func5, Tryd.ntmps5
  go_wp2_with fail
  refine wp_loop_rounds 5 ?_
  rw [rounds_succ]
  go_wp2_with fail
  refine (H0.out _).mono ?_
  rintro e w1 ⟨rfl, hb1⟩
  go_wp2_with fail
  go_ret2
  exact ⟨rfl, ((Below.refl _ _).alloc (Nat.le_refl _) _).trans (hb1.mono (by simp))⟩

set_option maxRecDepth 100000 in
set_option maxHeartbeats 4000000 in
theorem put_second (t r f p E : Int) (X0 X : ByteArray) (w : World) (z0 : X0.size = 6) (h0 : FixTo t X0 0) (h1 : FixTo r X E) (hE : (E != 0) = true) :
    Calls Tryd.prog 5 #[metaV t r f p] w fun e w' => e = .returned (.tuple #[.string ByteArray.empty, .int .i64 E]) ∧ Below w.heap.size w w' := by
  have H0 := Lib.hid h0
  have H1 := Lib.hid h1
  clear h0 h1
  have m0 : ¬ 9223372036854775807 < X0.size := by omega
  obtain ⟨i0, i1, i2, i3⟩ := arr4 t r f p
  unfold metaV
  go_enter Tryd.func5, Tryd.ntmps5
  go_wp2_with fail
  refine wp_loop_rounds 5 ?_
  rw [rounds_succ]
  go_wp2_with fail
  refine (H0.out _).mono ?_
  rintro e w1 ⟨rfl, hb1⟩
  go_wp2_with fail
  rw [rounds_succ]
  go_wp2_with fail
  refine (H1.out _).mono ?_
  rintro e w2 ⟨rfl, hb2⟩
  go_wp2_with fail
  go_ret2
  have hs1 := hb1.size
  simp at hs1
  exact ⟨rfl, (((Below.refl _ _).alloc (Nat.le_refl _) _).trans (hb1.mono (by simp))).trans (hb2.mono (by omega))⟩

set_option maxRecDepth 100000 in
set_option maxHeartbeats 4000000 in
theorem put_third (t r f p E : Int) (X0 X1 X : ByteArray) (w : World) (z0 : X0.size = 6) (h0 : FixTo t X0 0) (z1 : X1.size = 6) (h1 : FixTo r X1 0) (h2 : FixTo f X E) (hE : (E != 0) = true) :
    Calls Tryd.prog 5 #[metaV t r f p] w fun e w' => e = .returned (.tuple #[.string ByteArray.empty, .int .i64 E]) ∧ Below w.heap.size w w' := by
  have H0 := Lib.hid h0
  have H1 := Lib.hid h1
  have H2 := Lib.hid h2
  clear h0 h1 h2
  have m0 : ¬ 9223372036854775807 < X0.size := by omega
  have m1 : ¬ 9223372036854775807 < X0.size + X1.size := by omega
  obtain ⟨i0, i1, i2, i3⟩ := arr4 t r f p
  unfold metaV
  go_enter Tryd.func5, Tryd.ntmps5
  go_wp2_with fail
  refine wp_loop_rounds 5 ?_
  rw [rounds_succ]
  go_wp2_with fail
  refine (H0.out _).mono ?_
  rintro e w1 ⟨rfl, hb1⟩
  go_wp2_with fail
  rw [rounds_succ]
  go_wp2_with fail
  refine (H1.out _).mono ?_
  rintro e w2 ⟨rfl, hb2⟩
  go_wp2_with fail
  rw [rounds_succ]
  go_wp2_with fail
  refine (H2.out _).mono ?_
  rintro e w3 ⟨rfl, hb3⟩
  go_wp2_with fail
  go_ret2
  have hs1 := hb1.size
  have hs2 := hb2.size
  simp at hs1
  exact ⟨rfl, ((((Below.refl _ _).alloc (Nat.le_refl _) _).trans (hb1.mono (by simp))).trans (hb2.mono (by omega))).trans (hb3.mono (by omega))⟩

set_option maxRecDepth 100000 in
set_option maxHeartbeats 4000000 in
theorem put_fourth (t r f p E : Int) (X0 X1 X2 X : ByteArray) (w : World) (z0 : X0.size = 6) (h0 : FixTo t X0 0) (z1 : X1.size = 6) (h1 : FixTo r X1 0) (z2 : X2.size = 6) (h2 : FixTo f X2 0) (h3 : FixTo p X E) (hE : (E != 0) = true) :
    Calls Tryd.prog 5 #[metaV t r f p] w fun e w' => e = .returned (.tuple #[.string ByteArray.empty, .int .i64 E]) ∧ Below w.heap.size w w' := by
  have H0 := Lib.hid h0
  have H1 := Lib.hid h1
  have H2 := Lib.hid h2
  have H3 := Lib.hid h3
  clear h0 h1 h2 h3
  have m0 : ¬ 9223372036854775807 < X0.size := by omega
  have m1 : ¬ 9223372036854775807 < X0.size + X1.size := by omega
  have m2 : ¬ 9223372036854775807 < X0.size + X1.size + X2.size := by omega
  obtain ⟨i0, i1, i2, i3⟩ := arr4 t r f p
  unfold metaV
  go_enter Tryd.func5, Tryd.ntmps5
  go_wp2_with fail
  refine wp_loop_rounds 5 ?_
  rw [rounds_succ]
  go_wp2_with fail
  refine (H0.out _).mono ?_
  rintro e w1 ⟨rfl, hb1⟩
  go_wp2_with fail
  rw [rounds_succ]
  go_wp2_with fail
  refine (H1.out _).mono ?_
  rintro e w2 ⟨rfl, hb2⟩
  go_wp2_with fail
  rw [rounds_succ]
  go_wp2_with fail
  refine (H2.out _).mono ?_
  rintro e w3 ⟨rfl, hb3⟩
  go_wp2_with fail
  rw [rounds_succ]
  go_wp2_with fail
  refine (H3.out _).mono ?_
  rintro e w4 ⟨rfl, hb4⟩
  go_wp2_with fail
  go_ret2
  have hs1 := hb1.size
  have hs2 := hb2.size
  have hs3 := hb3.size
  simp at hs1
  exact ⟨rfl, (((((Below.refl _ _).alloc (Nat.le_refl _) _).trans (hb1.mono (by simp))).trans (hb2.mono (by omega))).trans (hb3.mono (by omega))).trans (hb4.mono (by omega))⟩

set_option maxRecDepth 100000 in
set_option maxHeartbeats 4000000 in
theorem put_last (t r f p E : Int) (X0 X1 X2 X3 X B : ByteArray) (w : World) (z0 : X0.size = 6) (h0 : FixTo t X0 0) (z1 : X1.size = 6) (h1 : FixTo r X1 0) (z2 : X2.size = 6) (h2 : FixTo f X2 0) (z3 : X3.size = 6) (h3 : FixTo p X3 0)
    (hB : (⟨#[]⟩ : ByteArray) ++ X0 ++ X1 ++ X2 ++ X3 = B)
    (hS : ∀ w : World, Calls Tryd.prog 22 #[.int .i64 (t % 2), .agg #[.int .i64 1, .int .i64 0, .string B]] w fun e w' => e = .returned (.tuple #[.string X, .int .i64 E]) ∧ Below w.heap.size w w') :
    Calls Tryd.prog 5 #[metaV t r f p] w fun e w' => e = .returned (.tuple #[.string X, .int .i64 E]) ∧ Below w.heap.size w w' := by
  have H0 := Lib.hid h0
  have H1 := Lib.hid h1
  have H2 := Lib.hid h2
  have H3 := Lib.hid h3
  have HB := Lib.hid hB
  have HS := Lib.hid hS
  have hH : Has (w.alloc (.cells #[.int .i64 t, .int .i64 r, .int .i64 f, .int .i64 p] 23)) w.heap.size 23 #[.int .i64 t, .int .i64 r, .int .i64 f, .int .i64 p] := Has.made w _ _
  clear h0 h1 h2 h3 hS hB
  have m0 : ¬ 9223372036854775807 < X0.size := by omega
  have m1 : ¬ 9223372036854775807 < X0.size + X1.size := by omega
  have m2 : ¬ 9223372036854775807 < X0.size + X1.size + X2.size := by omega
  have m3 : ¬ 9223372036854775807 < X0.size + X1.size + X2.size + X3.size := by omega
  obtain ⟨i0, i1, i2, i3⟩ := arr4 t r f p
  unfold metaV
  go_enter Tryd.func5, Tryd.ntmps5
  go_wp2_with fail
  refine wp_loop_rounds 5 ?_
  rw [rounds_succ]
  go_wp2_with fail
  refine (H0.out _).mono ?_
  rintro e w1 ⟨rfl, hb1⟩
  go_wp2_with fail
  rw [rounds_succ]
  go_wp2_with fail
  refine (H1.out _).mono ?_
  rintro e w2 ⟨rfl, hb2⟩
  go_wp2_with fail
  rw [rounds_succ]
  go_wp2_with fail
  refine (H2.out _).mono ?_
  rintro e w3 ⟨rfl, hb3⟩
  go_wp2_with fail
  rw [rounds_succ]
  go_wp2_with fail
  refine (H3.out _).mono ?_
  rintro e w4 ⟨rfl, hb4⟩
  have hs1 := hb1.size
  have hs2 := hb2.size
  have hs3 := hb3.size
  have hs4 := hb4.size
  simp at hs1
  have hH4 := (((hH.below hb1 hH.inside).below hb2 (by omega)).below hb3 (by omega)).below hb4 (by omega)
  have HW := Lib.hid (((((((Below.refl w.heap.size w).alloc (Nat.le_refl _) (.cells #[.int .i64 t, .int .i64 r, .int .i64 f, .int .i64 p] 23)).trans (hb1.mono (by simp))).trans (hb2.mono (by omega))).trans (hb3.mono (by omega))).trans (hb4.mono (by omega))))
  have c0 : w4.cell? ⟨w.heap.size, 0, none⟩ = some (.int .i64 t) := hH4.cell 0
  clear hH hH4 hb1 hb2 hb3 hb4
  go_wp2_with fail
  rw [rounds_succ]
  go_wp2_with (go_at_call 7; refine (place_any _ _).mono ?_; rintro e w5 ⟨rfl, rfl⟩)
  rw [HB.out]
  refine (HS.out _).mono ?_
  rintro e w6 ⟨rfl, hb6⟩
  go_wp2_with fail
  go_ret2
  exact ⟨rfl, HW.out.trans (hb6.mono (by omega))⟩

theorem fix6_yes {v : Int} (h : Fits6 v) : fixE v 6 = 0 ∧ fixB v 6 = leb 6 v.toNat := by
  have e : (1 : Int) ≤ 6 ∧ (6 : Int) ≤ 7 ∧ 0 ≤ v ∧ v < 2 ^ (8 * (6 : Int).toNat) := ⟨by omega, by omega, h.1, by have := h.2; show v < 281474976710656; exact this⟩
  exact ⟨by rw [fixE, if_pos e], by rw [fixB, if_pos e]; rfl⟩
theorem fix6_no {v : Int} (h : ¬ Fits6 v) : fixE v 6 = 1 := by
  rw [fixE, if_neg]
  rintro ⟨_, _, a, b⟩
  exact h ⟨a, by show v < 281474976710656; exact b⟩
theorem fixTo_yes {v : Int} (hv : v ≤ 9223372036854775807) (h : Fits6 v) : FixTo v ⟨(leb 6 v.toNat).toArray⟩ 0 := by
  intro w
  have := fix_any v 6 w hv
  rwa [(fix6_yes h).1, (fix6_yes h).2] at this
theorem fixTo_no {v : Int} (hv : v ≤ 9223372036854775807) (h : ¬ Fits6 v) : FixTo v ⟨(fixB v 6).toArray⟩ 1 := by
  intro w
  have := fix_any v 6 w hv
  rwa [fix6_no h] at this
theorem leb6_size (v : Nat) : (⟨(leb 6 v).toArray⟩ : ByteArray).size = 6 := by show Array.size _ = 6; simp [leb_length]

/-- What Put tells, of any meta. -/
theorem mput_any (t r f p : Int) (w : World) (ht : IsInt t) (hr : IsInt r) (hf : IsInt f) (hp : IsInt p) :
    Calls Tryd.prog 5 #[metaV t r f p] w fun e w' => e = .returned (.tuple #[.string ⟨(putB t r f p).toArray⟩, .int .i64 (putE t r f p)]) ∧ Below w.heap.size w w' := by
  have kt : t ≤ 9223372036854775807 := ht.2
  have kr : r ≤ 9223372036854775807 := hr.2
  have kf : f ≤ 9223372036854775807 := hf.2
  have kp : p ≤ 9223372036854775807 := hp.2
  by_cases h0 : Fits6 t
  · by_cases h1 : Fits6 r
    · by_cases h2 : Fits6 f
      · by_cases h3 : Fits6 p
        · have hok : MetaOK t r f p := ⟨h0, h1, h2, h3⟩
          rw [putB, putE, if_pos hok, if_pos hok]
          have hB : ((⟨#[]⟩ : ByteArray) ++ ⟨(leb 6 t.toNat).toArray⟩ ++ ⟨(leb 6 r.toNat).toArray⟩ ++ ⟨(leb 6 f.toNat).toArray⟩ ++ ⟨(leb 6 p.toNat).toArray⟩).data.toList = mbody t.toNat r.toNat f.toNat p.toNat := by
            simp [mbody]
          have hBz : ((⟨#[]⟩ : ByteArray) ++ ⟨(leb 6 t.toNat).toArray⟩ ++ ⟨(leb 6 r.toNat).toArray⟩ ++ ⟨(leb 6 f.toNat).toArray⟩ ++ ⟨(leb 6 p.toNat).toArray⟩).size = 24 := by
            have := congrArg List.length hB
            rw [mbody_len] at this
            exact this
          refine put_last t r f p 0 _ _ _ _ _ _ w (leb6_size _) (fixTo_yes kt h0) (leb6_size _) (fixTo_yes kr h1) (leb6_size _) (fixTo_yes kf h2) (leb6_size _) (fixTo_yes kp h3) rfl ?_
          intro w
          have hs := seal_any (t % 2) 1 0 ((⟨#[]⟩ : ByteArray) ++ ⟨(leb 6 t.toNat).toArray⟩ ++ ⟨(leb 6 r.toNat).toArray⟩ ++ ⟨(leb 6 f.toNat).toArray⟩ ++ ⟨(leb 6 p.toNat).toArray⟩) w ⟨by omega, by omega⟩ ⟨by omega, by omega⟩ ⟨by omega, by omega⟩ (by omega)
          have hso : SealOK (t % 2) 1 0 := ⟨by omega, by omega, by omega, by omega, by omega, by omega⟩
          rw [hB, hBz, sealB, sealE, if_pos ⟨hso, by rw [mbody_len]; omega⟩, if_pos hso, if_pos (by omega)] at hs
          have e : (t % 2).toNat = t.toNat % 2 := by have := h0.1; omega
          rw [e] at hs
          exact hs
        · have hok : ¬ MetaOK t r f p := fun h => h3 h.2.2.2
          rw [putB, putE, if_neg hok, if_neg hok]
          exact put_fourth t r f p 1 _ _ _ _ w (leb6_size _) (fixTo_yes kt h0) (leb6_size _) (fixTo_yes kr h1) (leb6_size _) (fixTo_yes kf h2) (fixTo_no kp h3) rfl
      · have hok : ¬ MetaOK t r f p := fun h => h2 h.2.2.1
        rw [putB, putE, if_neg hok, if_neg hok]
        exact put_third t r f p 1 _ _ _ w (leb6_size _) (fixTo_yes kt h0) (leb6_size _) (fixTo_yes kr h1) (fixTo_no kf h2) rfl
    · have hok : ¬ MetaOK t r f p := fun h => h1 h.2.1
      rw [putB, putE, if_neg hok, if_neg hok]
      exact put_second t r f p 1 _ _ w (leb6_size _) (fixTo_yes kt h0) (fixTo_no kr h1) rfl
  · have hok : ¬ MetaOK t r f p := fun h => h0 h.1
    rw [putB, putE, if_neg hok, if_neg hok]
    exact put_first t r f p 1 _ w (fixTo_no kt h0) rfl
end Go.Proofs.YthcpjpebahiikaaDoor

namespace Go.Proofs.YthcpjpebahiikaaDoor
open Go.RowKit Go.Lib

theorem refPlace_any (t : Int) (w : World) : Calls Tryd.prog 8 #[.int .i64 t] w fun e w' => e = .returned (.int .i64 (t % 2)) ∧ w = w' := by
  have hm : (0 ≤ t.tmod 2 ∧ t.tmod 2 = t % 2) ∨ (t.tmod 2 < 0 ∧ t.tmod 2 = -1 ∧ t % 2 = 1) := by
    by_cases h0 : 0 ≤ t
    · have := Int.tmod_eq_emod_of_nonneg (b := 2) h0
      omega
    · have h1 := Int.neg_tmod (a := -t) (b := 2)
      have h2 := Int.tmod_eq_emod_of_nonneg (a := -t) (b := 2) (by omega)
      rw [Int.neg_neg] at h1
      omega
  rcases hm with ⟨h1, h2⟩ | ⟨h1, h2, h3⟩
  · rw [h2] at h1
    have h4 : decide (t % 2 < 0) = false := by simpa using h1
    go_enter Tryd.func8, Tryd.ntmps8
    go_wp2
    go_ret
    exact ⟨rfl, rfl⟩
  · rw [h3]
    go_enter Tryd.func8, Tryd.ntmps8
    go_wp2
    go_ret
    exact ⟨rfl, rfl⟩

/-- What the document's Fix is called with. -/
def RFixTo (t : Int) (X : ByteArray) (E : Int) : Prop := ∀ w : World, Calls Tryd.prog 23 #[.int .i64 t, .int .i64 6] w fun e w' => e = .returned (.tuple #[.string X, .int .i64 E]) ∧ Below w.heap.size w w'
theorem rfixTo_yes {v : Int} (hv : v ≤ 9223372036854775807) (h : Fits6 v) : RFixTo v ⟨(leb 6 v.toNat).toArray⟩ 0 := by
  intro w
  have := refFix_any v 6 w hv
  rwa [(fix6_yes h).1, (fix6_yes h).2] at this
theorem rfixTo_no {v : Int} (hv : v ≤ 9223372036854775807) (h : ¬ Fits6 v) : RFixTo v ⟨(fixB v 6).toArray⟩ 1 := by
  intro w
  have := refFix_any v 6 w hv
  rwa [fix6_no h] at this
abbrev metaO (t r f p : Int) : Obj := .cells #[.int .i64 t, .int .i64 r, .int .i64 f, .int .i64 p] 23
/-- The meta and the list of its numbers. -/
def RPut (w : World) (t r f p : Int) (W : World) : Prop := Has W w.heap.size 23 #[.int .i64 t, .int .i64 r, .int .i64 f, .int .i64 p] ∧ Has W (w.heap.size + 1) 3 #[.int .i64 t, .int .i64 r, .int .i64 f, .int .i64 p] ∧ w.heap.size + 2 ≤ W.heap.size ∧ Below w.heap.size w W
theorem RPut.below {w W W' : World} {t r f p : Int} (h : RPut w t r f p W) (hb : Below W.heap.size W W') : RPut w t r f p W' :=
  ⟨h.1.below hb h.1.inside, h.2.1.below hb h.2.1.inside, Nat.le_trans h.2.2.1 hb.size, h.2.2.2.trans (hb.mono (by have := h.2.2.1; omega))⟩
abbrev fourO (t r f p : Int) : Obj := .cells #[.int .i64 t, .int .i64 r, .int .i64 f, .int .i64 p] 3

set_option maxRecDepth 100000 in
set_option maxHeartbeats 4000000 in
theorem rput_0 (t r f p E : Int) ( X : ByteArray) (w : World)  (h0 : RFixTo t X E) (hE : (E != 0) = true) :
    Calls Tryd.prog 6 #[metaV t r f p] w fun e w' => e = .returned (.tuple #[.string ByteArray.empty, .int .i64 E]) ∧ Below w.heap.size w w' := by
  have H0 := Lib.hid h0
  clear h0
  have hH := ((Has.made w 23 #[.int .i64 t, .int .i64 r, .int .i64 f, .int .i64 p]).alloc (fourO t r f p))
  have hG : Has ((w.alloc (metaO t r f p)).alloc (fourO t r f p)) (w.heap.size + 1) 3 #[.int .i64 t, .int .i64 r, .int .i64 f, .int .i64 p] := by simpa using Has.made (w.alloc (metaO t r f p)) 3 #[.int .i64 t, .int .i64 r, .int .i64 f, .int .i64 p]
  have hb := (((Below.refl w.heap.size w).alloc (Nat.le_refl _) (metaO t r f p)).alloc (by simp) (fourO t r f p))
  unfold metaV
  go_enter Tryd.func6, Tryd.ntmps6
  go_upto_region 2 with fail
  change Code.wp _ _ _ _ ((w.alloc (metaO t r f p)).alloc (fourO t r f p))
  generalize (w.alloc (metaO t r f p)).alloc (fourO t r f p) = W at *
  have h2 : w.heap.size + 2 ≤ W.heap.size := by have := hG.inside; omega
  have HG := Lib.hid (And.intro hH (And.intro hG (And.intro h2 hb)))
  clear hH hG hb h2
  go_wp2_with fail
  refine wp_loop_rounds 5 ?_
  obtain ⟨⟨a0, a1, a2, a3⟩, -⟩ := HG.out.2.1.four
  rw [rounds_succ]
  go_wp2_with fail
  refine (H0.out _).mono ?_
  rintro e w0 ⟨rfl, hb⟩
  replace HG := Lib.hid (RPut.below HG.out hb)
  clear a0 a1 a2 a3 hb
  go_wp2_with fail
  go_ret2
  exact ⟨rfl, HG.out.2.2.2⟩

set_option maxRecDepth 100000 in
set_option maxHeartbeats 4000000 in
theorem rput_1 (t r f p E : Int) (X0 X : ByteArray) (w : World) (z0 : X0.size = 6) (h0 : RFixTo t X0 0) (h1 : RFixTo r X E) (hE : (E != 0) = true) :
    Calls Tryd.prog 6 #[metaV t r f p] w fun e w' => e = .returned (.tuple #[.string ByteArray.empty, .int .i64 E]) ∧ Below w.heap.size w w' := by
  have H0 := Lib.hid h0
  have H1 := Lib.hid h1
  clear h0 h1
  have m0 : ¬ 9223372036854775807 < X0.size := by omega
  have hH := ((Has.made w 23 #[.int .i64 t, .int .i64 r, .int .i64 f, .int .i64 p]).alloc (fourO t r f p))
  have hG : Has ((w.alloc (metaO t r f p)).alloc (fourO t r f p)) (w.heap.size + 1) 3 #[.int .i64 t, .int .i64 r, .int .i64 f, .int .i64 p] := by simpa using Has.made (w.alloc (metaO t r f p)) 3 #[.int .i64 t, .int .i64 r, .int .i64 f, .int .i64 p]
  have hb := (((Below.refl w.heap.size w).alloc (Nat.le_refl _) (metaO t r f p)).alloc (by simp) (fourO t r f p))
  unfold metaV
  go_enter Tryd.func6, Tryd.ntmps6
  go_upto_region 2 with fail
  change Code.wp _ _ _ _ ((w.alloc (metaO t r f p)).alloc (fourO t r f p))
  generalize (w.alloc (metaO t r f p)).alloc (fourO t r f p) = W at *
  have h2 : w.heap.size + 2 ≤ W.heap.size := by have := hG.inside; omega
  have HG := Lib.hid (And.intro hH (And.intro hG (And.intro h2 hb)))
  clear hH hG hb h2
  go_wp2_with fail
  refine wp_loop_rounds 5 ?_
  obtain ⟨⟨a0, a1, a2, a3⟩, -⟩ := HG.out.2.1.four
  rw [rounds_succ]
  go_wp2_with fail
  refine (H0.out _).mono ?_
  rintro e w0 ⟨rfl, hb⟩
  replace HG := Lib.hid (RPut.below HG.out hb)
  clear a0 a1 a2 a3 hb
  go_wp2_with fail
  obtain ⟨⟨a0, a1, a2, a3⟩, -⟩ := HG.out.2.1.four
  rw [rounds_succ]
  go_wp2_with fail
  refine (H1.out _).mono ?_
  rintro e w1 ⟨rfl, hb⟩
  replace HG := Lib.hid (RPut.below HG.out hb)
  clear a0 a1 a2 a3 hb
  go_wp2_with fail
  go_ret2
  exact ⟨rfl, HG.out.2.2.2⟩

set_option maxRecDepth 100000 in
set_option maxHeartbeats 4000000 in
theorem rput_2 (t r f p E : Int) (X0 X1 X : ByteArray) (w : World) (z0 : X0.size = 6) (h0 : RFixTo t X0 0) (z1 : X1.size = 6) (h1 : RFixTo r X1 0) (h2 : RFixTo f X E) (hE : (E != 0) = true) :
    Calls Tryd.prog 6 #[metaV t r f p] w fun e w' => e = .returned (.tuple #[.string ByteArray.empty, .int .i64 E]) ∧ Below w.heap.size w w' := by
  have H0 := Lib.hid h0
  have H1 := Lib.hid h1
  have H2 := Lib.hid h2
  clear h0 h1 h2
  have m0 : ¬ 9223372036854775807 < X0.size := by omega
  have m1 : ¬ 9223372036854775807 < X0.size + X1.size := by omega
  have hH := ((Has.made w 23 #[.int .i64 t, .int .i64 r, .int .i64 f, .int .i64 p]).alloc (fourO t r f p))
  have hG : Has ((w.alloc (metaO t r f p)).alloc (fourO t r f p)) (w.heap.size + 1) 3 #[.int .i64 t, .int .i64 r, .int .i64 f, .int .i64 p] := by simpa using Has.made (w.alloc (metaO t r f p)) 3 #[.int .i64 t, .int .i64 r, .int .i64 f, .int .i64 p]
  have hb := (((Below.refl w.heap.size w).alloc (Nat.le_refl _) (metaO t r f p)).alloc (by simp) (fourO t r f p))
  unfold metaV
  go_enter Tryd.func6, Tryd.ntmps6
  go_upto_region 2 with fail
  change Code.wp _ _ _ _ ((w.alloc (metaO t r f p)).alloc (fourO t r f p))
  generalize (w.alloc (metaO t r f p)).alloc (fourO t r f p) = W at *
  have h2 : w.heap.size + 2 ≤ W.heap.size := by have := hG.inside; omega
  have HG := Lib.hid (And.intro hH (And.intro hG (And.intro h2 hb)))
  clear hH hG hb h2
  go_wp2_with fail
  refine wp_loop_rounds 5 ?_
  obtain ⟨⟨a0, a1, a2, a3⟩, -⟩ := HG.out.2.1.four
  rw [rounds_succ]
  go_wp2_with fail
  refine (H0.out _).mono ?_
  rintro e w0 ⟨rfl, hb⟩
  replace HG := Lib.hid (RPut.below HG.out hb)
  clear a0 a1 a2 a3 hb
  go_wp2_with fail
  obtain ⟨⟨a0, a1, a2, a3⟩, -⟩ := HG.out.2.1.four
  rw [rounds_succ]
  go_wp2_with fail
  refine (H1.out _).mono ?_
  rintro e w1 ⟨rfl, hb⟩
  replace HG := Lib.hid (RPut.below HG.out hb)
  clear a0 a1 a2 a3 hb
  go_wp2_with fail
  obtain ⟨⟨a0, a1, a2, a3⟩, -⟩ := HG.out.2.1.four
  rw [rounds_succ]
  go_wp2_with fail
  refine (H2.out _).mono ?_
  rintro e w2 ⟨rfl, hb⟩
  replace HG := Lib.hid (RPut.below HG.out hb)
  clear a0 a1 a2 a3 hb
  go_wp2_with fail
  go_ret2
  exact ⟨rfl, HG.out.2.2.2⟩

set_option maxRecDepth 100000 in
set_option maxHeartbeats 4000000 in
theorem rput_3 (t r f p E : Int) (X0 X1 X2 X : ByteArray) (w : World) (z0 : X0.size = 6) (h0 : RFixTo t X0 0) (z1 : X1.size = 6) (h1 : RFixTo r X1 0) (z2 : X2.size = 6) (h2 : RFixTo f X2 0) (h3 : RFixTo p X E) (hE : (E != 0) = true) :
    Calls Tryd.prog 6 #[metaV t r f p] w fun e w' => e = .returned (.tuple #[.string ByteArray.empty, .int .i64 E]) ∧ Below w.heap.size w w' := by
  have H0 := Lib.hid h0
  have H1 := Lib.hid h1
  have H2 := Lib.hid h2
  have H3 := Lib.hid h3
  clear h0 h1 h2 h3
  have m0 : ¬ 9223372036854775807 < X0.size := by omega
  have m1 : ¬ 9223372036854775807 < X0.size + X1.size := by omega
  have m2 : ¬ 9223372036854775807 < X0.size + X1.size + X2.size := by omega
  have hH := ((Has.made w 23 #[.int .i64 t, .int .i64 r, .int .i64 f, .int .i64 p]).alloc (fourO t r f p))
  have hG : Has ((w.alloc (metaO t r f p)).alloc (fourO t r f p)) (w.heap.size + 1) 3 #[.int .i64 t, .int .i64 r, .int .i64 f, .int .i64 p] := by simpa using Has.made (w.alloc (metaO t r f p)) 3 #[.int .i64 t, .int .i64 r, .int .i64 f, .int .i64 p]
  have hb := (((Below.refl w.heap.size w).alloc (Nat.le_refl _) (metaO t r f p)).alloc (by simp) (fourO t r f p))
  unfold metaV
  go_enter Tryd.func6, Tryd.ntmps6
  go_upto_region 2 with fail
  change Code.wp _ _ _ _ ((w.alloc (metaO t r f p)).alloc (fourO t r f p))
  generalize (w.alloc (metaO t r f p)).alloc (fourO t r f p) = W at *
  have h2 : w.heap.size + 2 ≤ W.heap.size := by have := hG.inside; omega
  have HG := Lib.hid (And.intro hH (And.intro hG (And.intro h2 hb)))
  clear hH hG hb h2
  go_wp2_with fail
  refine wp_loop_rounds 5 ?_
  obtain ⟨⟨a0, a1, a2, a3⟩, -⟩ := HG.out.2.1.four
  rw [rounds_succ]
  go_wp2_with fail
  refine (H0.out _).mono ?_
  rintro e w0 ⟨rfl, hb⟩
  replace HG := Lib.hid (RPut.below HG.out hb)
  clear a0 a1 a2 a3 hb
  go_wp2_with fail
  obtain ⟨⟨a0, a1, a2, a3⟩, -⟩ := HG.out.2.1.four
  rw [rounds_succ]
  go_wp2_with fail
  refine (H1.out _).mono ?_
  rintro e w1 ⟨rfl, hb⟩
  replace HG := Lib.hid (RPut.below HG.out hb)
  clear a0 a1 a2 a3 hb
  go_wp2_with fail
  obtain ⟨⟨a0, a1, a2, a3⟩, -⟩ := HG.out.2.1.four
  rw [rounds_succ]
  go_wp2_with fail
  refine (H2.out _).mono ?_
  rintro e w2 ⟨rfl, hb⟩
  replace HG := Lib.hid (RPut.below HG.out hb)
  clear a0 a1 a2 a3 hb
  go_wp2_with fail
  obtain ⟨⟨a0, a1, a2, a3⟩, -⟩ := HG.out.2.1.four
  rw [rounds_succ]
  go_wp2_with fail
  refine (H3.out _).mono ?_
  rintro e w3 ⟨rfl, hb⟩
  replace HG := Lib.hid (RPut.below HG.out hb)
  clear a0 a1 a2 a3 hb
  go_wp2_with fail
  go_ret2
  exact ⟨rfl, HG.out.2.2.2⟩

set_option maxRecDepth 100000 in
set_option maxHeartbeats 4000000 in
theorem rput_4 (t r f p E : Int) (X0 X1 X2 X3 X B : ByteArray) (w : World) (z0 : X0.size = 6) (h0 : RFixTo t X0 0) (z1 : X1.size = 6) (h1 : RFixTo r X1 0) (z2 : X2.size = 6) (h2 : RFixTo f X2 0) (z3 : X3.size = 6) (h3 : RFixTo p X3 0)
    (hB : (⟨#[]⟩ : ByteArray) ++ X0 ++ X1 ++ X2 ++ X3 = B)
    (hS : ∀ w : World, Calls Tryd.prog 24 #[.int .i64 (t % 2), .agg #[.int .i64 1, .int .i64 0, .string B]] w fun e w' => e = .returned (.tuple #[.string X, .int .i64 E]) ∧ Below w.heap.size w w') :
    Calls Tryd.prog 6 #[metaV t r f p] w fun e w' => e = .returned (.tuple #[.string X, .int .i64 E]) ∧ Below w.heap.size w w' := by
  have H0 := Lib.hid h0
  have H1 := Lib.hid h1
  have H2 := Lib.hid h2
  have H3 := Lib.hid h3
  clear h0 h1 h2 h3
  have HB := Lib.hid hB
  have HS := Lib.hid hS
  clear hB hS
  have m0 : ¬ 9223372036854775807 < X0.size := by omega
  have m1 : ¬ 9223372036854775807 < X0.size + X1.size := by omega
  have m2 : ¬ 9223372036854775807 < X0.size + X1.size + X2.size := by omega
  have m3 : ¬ 9223372036854775807 < X0.size + X1.size + X2.size + X3.size := by omega
  have hH := ((Has.made w 23 #[.int .i64 t, .int .i64 r, .int .i64 f, .int .i64 p]).alloc (fourO t r f p))
  have hG : Has ((w.alloc (metaO t r f p)).alloc (fourO t r f p)) (w.heap.size + 1) 3 #[.int .i64 t, .int .i64 r, .int .i64 f, .int .i64 p] := by simpa using Has.made (w.alloc (metaO t r f p)) 3 #[.int .i64 t, .int .i64 r, .int .i64 f, .int .i64 p]
  have hb := (((Below.refl w.heap.size w).alloc (Nat.le_refl _) (metaO t r f p)).alloc (by simp) (fourO t r f p))
  unfold metaV
  go_enter Tryd.func6, Tryd.ntmps6
  go_upto_region 2 with fail
  change Code.wp _ _ _ _ ((w.alloc (metaO t r f p)).alloc (fourO t r f p))
  generalize (w.alloc (metaO t r f p)).alloc (fourO t r f p) = W at *
  have h2 : w.heap.size + 2 ≤ W.heap.size := by have := hG.inside; omega
  have HG := Lib.hid (And.intro hH (And.intro hG (And.intro h2 hb)))
  clear hH hG hb h2
  go_wp2_with fail
  refine wp_loop_rounds 5 ?_
  obtain ⟨⟨a0, a1, a2, a3⟩, -⟩ := HG.out.2.1.four
  rw [rounds_succ]
  go_wp2_with fail
  refine (H0.out _).mono ?_
  rintro e w0 ⟨rfl, hb⟩
  replace HG := Lib.hid (RPut.below HG.out hb)
  clear a0 a1 a2 a3 hb
  go_wp2_with fail
  obtain ⟨⟨a0, a1, a2, a3⟩, -⟩ := HG.out.2.1.four
  rw [rounds_succ]
  go_wp2_with fail
  refine (H1.out _).mono ?_
  rintro e w1 ⟨rfl, hb⟩
  replace HG := Lib.hid (RPut.below HG.out hb)
  clear a0 a1 a2 a3 hb
  go_wp2_with fail
  obtain ⟨⟨a0, a1, a2, a3⟩, -⟩ := HG.out.2.1.four
  rw [rounds_succ]
  go_wp2_with fail
  refine (H2.out _).mono ?_
  rintro e w2 ⟨rfl, hb⟩
  replace HG := Lib.hid (RPut.below HG.out hb)
  clear a0 a1 a2 a3 hb
  go_wp2_with fail
  obtain ⟨⟨a0, a1, a2, a3⟩, -⟩ := HG.out.2.1.four
  rw [rounds_succ]
  go_wp2_with fail
  refine (H3.out _).mono ?_
  rintro e w3 ⟨rfl, hb⟩
  replace HG := Lib.hid (RPut.below HG.out hb)
  clear a0 a1 a2 a3 hb
  go_wp2_with fail
  obtain ⟨⟨a0, a1, a2, a3⟩, -⟩ := HG.out.2.1.four
  have c0 := HG.out.1.four.1.1
  have hz : w.heap.size ≤ w3.heap.size := by have := HG.out.2.2.1; omega
  rw [rounds_succ]
  go_wp2_with (go_at_call 8; refine (refPlace_any _ _).mono ?_; rintro e w5 ⟨rfl, rfl⟩)
  rw [HB.out]
  refine (HS.out _).mono ?_
  rintro e w6 ⟨rfl, hb6⟩
  go_wp2_with fail
  go_ret2
  exact ⟨rfl, HG.out.2.2.2.trans (hb6.mono hz)⟩

/-- What the document's PutMeta tells, of any meta. -/
theorem refPutMeta_any (t r f p : Int) (w : World) (ht : IsInt t) (hr : IsInt r) (hf : IsInt f) (hp : IsInt p) :
    Calls Tryd.prog 6 #[metaV t r f p] w fun e w' => e = .returned (.tuple #[.string ⟨(putB t r f p).toArray⟩, .int .i64 (putE t r f p)]) ∧ Below w.heap.size w w' := by
  have kt : t ≤ 9223372036854775807 := ht.2
  have kr : r ≤ 9223372036854775807 := hr.2
  have kf : f ≤ 9223372036854775807 := hf.2
  have kp : p ≤ 9223372036854775807 := hp.2
  by_cases h0 : Fits6 t
  · by_cases h1 : Fits6 r
    · by_cases h2 : Fits6 f
      · by_cases h3 : Fits6 p
        · have hok : MetaOK t r f p := ⟨h0, h1, h2, h3⟩
          rw [putB, putE, if_pos hok, if_pos hok]
          have hB : ((⟨#[]⟩ : ByteArray) ++ ⟨(leb 6 t.toNat).toArray⟩ ++ ⟨(leb 6 r.toNat).toArray⟩ ++ ⟨(leb 6 f.toNat).toArray⟩ ++ ⟨(leb 6 p.toNat).toArray⟩).data.toList = mbody t.toNat r.toNat f.toNat p.toNat := by
            simp [mbody]
          have hBz : ((⟨#[]⟩ : ByteArray) ++ ⟨(leb 6 t.toNat).toArray⟩ ++ ⟨(leb 6 r.toNat).toArray⟩ ++ ⟨(leb 6 f.toNat).toArray⟩ ++ ⟨(leb 6 p.toNat).toArray⟩).size = 24 := by
            have := congrArg List.length hB
            rw [mbody_len] at this
            exact this
          refine rput_4 t r f p 0 _ _ _ _ _ _ w (leb6_size _) (rfixTo_yes kt h0) (leb6_size _) (rfixTo_yes kr h1) (leb6_size _) (rfixTo_yes kf h2) (leb6_size _) (rfixTo_yes kp h3) rfl ?_
          intro w
          have hs := refSeal_any (t % 2) 1 0 ((⟨#[]⟩ : ByteArray) ++ ⟨(leb 6 t.toNat).toArray⟩ ++ ⟨(leb 6 r.toNat).toArray⟩ ++ ⟨(leb 6 f.toNat).toArray⟩ ++ ⟨(leb 6 p.toNat).toArray⟩) w (by omega)
          have hso : SealOK (t % 2) 1 0 := ⟨by omega, by omega, by omega, by omega, by omega, by omega⟩
          rw [hB, hBz, sealB, sealE, if_pos ⟨hso, by rw [mbody_len]; omega⟩, if_pos hso, if_pos (by omega)] at hs
          have e : (t % 2).toNat = t.toNat % 2 := by have := h0.1; omega
          rw [e] at hs
          exact hs
        · have hok : ¬ MetaOK t r f p := fun h => h3 h.2.2.2
          rw [putB, putE, if_neg hok, if_neg hok]
          exact rput_3 t r f p 1 _ _ _ _ w (leb6_size _) (rfixTo_yes kt h0) (leb6_size _) (rfixTo_yes kr h1) (leb6_size _) (rfixTo_yes kf h2) (rfixTo_no kp h3) rfl
      · have hok : ¬ MetaOK t r f p := fun h => h2 h.2.2.1
        rw [putB, putE, if_neg hok, if_neg hok]
        exact rput_2 t r f p 1 _ _ _ w (leb6_size _) (rfixTo_yes kt h0) (leb6_size _) (rfixTo_yes kr h1) (rfixTo_no kf h2) rfl
    · have hok : ¬ MetaOK t r f p := fun h => h1 h.2.1
      rw [putB, putE, if_neg hok, if_neg hok]
      exact rput_1 t r f p 1 _ _ w (leb6_size _) (rfixTo_yes kt h0) (rfixTo_no kr h1) rfl
  · have hok : ¬ MetaOK t r f p := fun h => h0 h.1
    rw [putB, putE, if_neg hok, if_neg hok]
    exact rput_0 t r f p 1 _ w (rfixTo_no kt h0) rfl
end Go.Proofs.YthcpjpebahiikaaDoor
