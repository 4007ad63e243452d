/-
  Walks over the document's own answers to chapter 4: Seal.
-/
import Derived.Test.YthcpjpebahiikaaDoorMg12
import Derived.Test.YthcpjpebahiikaaDoorMg17
import Derived.Test.YthcpjpebahiikaaDoorMg18
namespace Go.Proofs.YthcpjpebahiikaaDoor
open Go.RowKit Go.Lib

theorem reffix_fit (v : Nat) (m : Int) (n : Nat) (w : World) (x : ByteArray) (hm : m = n) (h1 : 1 ≤ n) (h7 : n ≤ 7) (hv : v ≤ 9223372036854775807) (hb : v < 2 ^ (8 * n)) (hx : (⟨(leb n v).toArray⟩ : ByteArray) = x) :
    Calls Tryd.prog 40 #[.int .i64 v, .int .i64 m] w fun e w' => e = .returned (.string x) ∧ Below w.heap.size w w' := by
  subst hx hm
  have h := fun w => refFix_nat v n w h1 h7 hv
  simp only [if_pos hb] at h
  have H := Lib.hid h
  clear h hb
  go_enter Tryd.func40, Tryd.ntmps40
  go_wp2_with (go_at_call 23; ((with_reducible refine (H.out _).mono ?_)); rintro e w' ⟨rfl, hb⟩)
  go_ret
  exact ⟨rfl, hb⟩

set_option maxRecDepth 100000 in
set_option maxHeartbeats 1000000 in
theorem rseal_bad (id kind next : Int) (s : ByteArray) (w : World)
    (h : id < 0 ∨ ¬ id < 0 ∧ 4294967295 < id ∨ ¬ id < 0 ∧ ¬ 4294967295 < id ∧ next < 0 ∨ ¬ id < 0 ∧ ¬ 4294967295 < id ∧ ¬ next < 0 ∧ 4294967295 < next ∨ ¬ id < 0 ∧ ¬ 4294967295 < id ∧ ¬ next < 0 ∧ ¬ 4294967295 < next ∧ kind < 1 ∨ ¬ id < 0 ∧ ¬ 4294967295 < id ∧ ¬ next < 0 ∧ ¬ 4294967295 < next ∧ ¬ kind < 1 ∧ 255 < kind) :
    Calls Tryd.prog 24 #[.int .i64 id, .agg #[.int .i64 kind, .int .i64 next, .string s]] w fun e w' => e = .returned (.tuple #[.string ⟨#[]⟩, .int .i64 1]) ∧ Below w.heap.size w w' := by
  rcases h with h | ⟨h1, h⟩ | ⟨h1, h2, h⟩ | ⟨h1, h2, h3, h⟩ | ⟨h1, h2, h3, h4, h⟩ | ⟨h1, h2, h3, h4, h5, h⟩
  all_goals
    go_enter Tryd.func24, Tryd.ntmps24
    go_wp2_with fail
    go_ret2
    exact ⟨rfl, (Below.refl _ _).alloc (Nat.le_refl _) _⟩

set_option maxRecDepth 100000 in
set_option maxHeartbeats 2000000 in
theorem rseal_fit (id kind next : Nat) (s : ByteArray) (w : World) (hi : id < 4294967296) (hn : next < 4294967296) (hk0 : 0 < kind) (hk : kind < 256) (hs0 : s.size ≤ 9223372036854775807) :
    Calls Tryd.prog 24 #[.int .i64 id, .agg #[.int .i64 kind, .int .i64 next, .string s]] w fun e w' => e = .returned (.tuple #[.string ⟨(if s.size ≤ 240 then pageB kind id next s.data.toList else []).toArray⟩, .int .i64 (if s.size ≤ 240 then 0 else 2)]) ∧ Below w.heap.size w w' := by
  obtain ⟨K, hK⟩ : ∃ K : ByteArray, (⟨(leb 1 kind).toArray⟩ : ByteArray) = K := ⟨_, rfl⟩
  obtain ⟨I, hI⟩ : ∃ K : ByteArray, (⟨(leb 4 id).toArray⟩ : ByteArray) = K := ⟨_, rfl⟩
  obtain ⟨N, hN⟩ : ∃ K : ByteArray, (⟨(leb 4 next).toArray⟩ : ByteArray) = K := ⟨_, rfl⟩
  have h1 := fun w => reffix_fit kind 1 1 w K rfl (by omega) (by omega) (by omega) (by omega) hK
  have h2 := fun w => reffix_fit id 4 4 w I rfl (by omega) (by omega) (by omega) (by omega) hI
  have h3 := fun w => reffix_fit next 4 4 w N rfl (by omega) (by omega) (by omega) (by omega) hN
  have k1 : K.data.toList = leb 1 kind := by rw [← hK]
  have k2 : I.data.toList = leb 4 id := by rw [← hI]
  have k3 : N.data.toList = leb 4 next := by rw [← hN]
  have z1 : K.size = 1 := by have := congrArg List.length k1; rw [leb_length] at this; simpa using this
  have z2 : I.size = 4 := by have := congrArg List.length k2; rw [leb_length] at this; simpa using this
  have z3 : N.size = 4 := by have := congrArg List.length k3; rw [leb_length] at this; simpa using this
  have g1 : ¬ 4294967295 < (id : Int) := by omega
  have g2 : ¬ 4294967295 < (next : Int) := by omega
  have g3 : ¬ (kind : Int) < 1 := by omega
  have g4 : ¬ 255 < (kind : Int) := by omega
  have g5 : ¬ (id : Int) < 0 := by omega
  have g6 : ¬ (next : Int) < 0 := by omega
  have H1 := Lib.hid h1
  have H2 := Lib.hid h2
  have H3 := Lib.hid h3
  have HK := Lib.hid k1
  have HI := Lib.hid k2
  have HN := Lib.hid k3
  have HZ := Lib.hid (And.intro z1 (And.intro z2 z3))
  clear h1 h2 h3 k1 k2 k3 z1 z2 z3 hK hI hN hi hn hk hk0
  by_cases hl : s.size ≤ 240
  · have hl2 : ¬ 240 < (s.size : Int) := by omega
    rw [if_pos hl, if_pos hl]
    obtain ⟨Z, hZ⟩ : ∃ K : ByteArray, (⟨(leb 2 s.size).toArray⟩ : ByteArray) = K := ⟨_, rfl⟩
    have h4 := fun w => reffix_fit s.size 2 2 w Z rfl (by omega) (by omega) (by omega) (by omega) hZ
    have k4 : Z.data.toList = leb 2 s.size := by rw [← hZ]
    have z4 : Z.size = 2 := by have := congrArg List.length k4; rw [leb_length] at this; simpa using this
    have hB : (K ++ I ++ N ++ Z ++ s).data.toList = headB kind id next s.size ++ s.data.toList := by
      simp only [cat_data, HK.out, HI.out, HN.out, k4, headB, List.append_assoc]
    have hBz : (K ++ I ++ N ++ Z ++ s).size = 11 + s.size := by
      have := HZ.out
      simp
      omega
    have H4 := Lib.hid h4
    have HB := Lib.hid hB
    have HBZ := Lib.hid hBz
    have m1 : ¬ 9223372036854775807 < K.size + I.size := by have := HZ.out; omega
    have m2 : ¬ 9223372036854775807 < K.size + I.size + N.size := by have := HZ.out; omega
    have m3 : ¬ 9223372036854775807 < K.size + I.size + N.size + Z.size := by have := HZ.out; omega
    have m4 : ¬ 9223372036854775807 < K.size + I.size + N.size + Z.size + s.size := by have := HZ.out; omega
    clear h4 k4 z4 hB hBz hZ
    go_enter Tryd.func24, Tryd.ntmps24
    go_wp2_with fail
    have hH : Has (w.alloc (.cells #[.int .i64 kind, .int .i64 next, .string s] 50)) w.heap.size 50 #[.int .i64 kind, .int .i64 next, .string s] := Has.made w 50 _
    have hB0 : Below w.heap.size w (w.alloc (.cells #[.int .i64 kind, .int .i64 next, .string s] 50)) := (Below.refl _ _).alloc (Nat.le_refl _) _
    have hz0 : (w.alloc (.cells #[.int .i64 kind, .int .i64 next, .string s] 50)).heap.size = w.heap.size + 1 := by simp
    generalize w.alloc (.cells #[.int .i64 kind, .int .i64 next, .string s] 50) = W0 at *
    have hS : ∀ W, Below W0.heap.size W0 W → W.cell? ⟨w.heap.size, 0, none⟩ = some (.int .i64 kind) ∧ W.cell? ⟨w.heap.size, 1, none⟩ = some (.int .i64 next) ∧ W.cell? ⟨w.heap.size, 2, none⟩ = some (.string s) :=
      fun W h => ⟨(hH.below h hH.inside).cell 0, (hH.below h hH.inside).cell 1, (hH.below h hH.inside).cell 2⟩
    have HS := Lib.hid hS
    have HB0 := Lib.hid (Below.refl W0.heap.size W0)
    have HZ0 := Lib.hid hz0
    have HW0 := Lib.hid hB0
    clear hS hz0 hH hB0
    go_region_held3 (fun w' => Below W0.heap.size W0 w' ∧ w'.cell? ⟨w.heap.size, 0, none⟩ = some (.int .i64 kind) ∧ w'.cell? ⟨w.heap.size, 1, none⟩ = some (.int .i64 next) ∧ w'.cell? ⟨w.heap.size, 2, none⟩ = some (.string s)) (first | exact ⟨hb4', HS.out _ hb4'⟩ | exact ⟨hb3', HS.out _ hb3'⟩ | exact ⟨hb3'.drew, HS.out _ hb3'.drew⟩ | exact ⟨hb2', HS.out _ hb2'⟩ | exact ⟨hb2'.drew, HS.out _ hb2'.drew⟩ | exact ⟨hb1', HS.out _ hb1'⟩ | exact ⟨hb1'.drew, HS.out _ hb1'.drew⟩ | exact ⟨HB0.out, HS.out _ HB0.out⟩ | exact ⟨HB0.out.drew, HS.out _ HB0.out.drew⟩ | fail) (first | (go_at_call 40; first | ((with_reducible refine (H1.out _).mono ?_); rintro e w1 ⟨rfl, hb1⟩; have hb1' : Below W0.heap.size W0 w1 := by first | exact (Below.refl W0.heap.size W0).trans (hb1.mono (Below.refl W0.heap.size W0).size) | exact (Below.refl W0.heap.size W0).drew.trans (hb1.mono (Below.refl W0.heap.size W0).size)) | ((with_reducible refine (H2.out _).mono ?_); rintro e w2 ⟨rfl, hb2⟩; have hb2' : Below W0.heap.size W0 w2 := by first | exact hb1'.trans (hb2.mono hb1'.size) | exact hb1'.drew.trans (hb2.mono hb1'.size)) | ((with_reducible refine (H3.out _).mono ?_); rintro e w3 ⟨rfl, hb3⟩; have hb3' : Below W0.heap.size W0 w3 := by first | exact hb2'.trans (hb3.mono hb2'.size) | exact hb2'.drew.trans (hb3.mono hb2'.size)) | ((with_reducible refine (H4.out _).mono ?_); rintro e w4 ⟨rfl, hb4⟩; have hb4' : Below W0.heap.size W0 w4 := by first | exact hb3'.trans (hb4.mono hb3'.size) | exact hb3'.drew.trans (hb4.mono hb3'.size))))
    clear m1 m2 m3 m4 HZ
    generalize K ++ I ++ N ++ Z ++ s = B at *
    have hc : 252 - (B.size : Int) = ((241 - s.size : Nat) : Int) := by rw [HBZ.out]; omega
    obtain ⟨c, hcc⟩ : ∃ c : Nat, 241 - s.size = c := ⟨_, rfl⟩
    rw [hcc] at hc
    have HC1 := Lib.hid hc
    have hc2 : wrap64 (252 - (B.size : Int)) = (c : Int) := by rw [← hc]; have := HBZ.out; unfold wrap64; omega
    have HC2 := Lib.hid hc2
    clear hc hc2
    have HCC := Lib.hid hcc
    have hcm : c ≤ 241 := by omega
    have mB : ¬ 9223372036854775807 < B.size + c := by have := HBZ.out; omega
    clear hcc
    go_wp2_with (at_make; refine make_bytes _ rfl _ _ rfl c (by first | exact congrArg (Value.int .i64) HC1.out | exact congrArg (Value.int .i64) HC2.out) (by first | exact congrArg (Value.int .i64) HC1.out | exact congrArg (Value.int .i64) HC2.out) (by omega) ?_; intro w5 hrow hb5; have hstr := row_string hrow)
    have hT : (B ++ ⟨Array.replicate c 0⟩ : ByteArray).data.toList = bodyB kind id next s.data.toList := by
      rw [cat_data, HB.out, ← HCC.out]
      simp [bodyB]
    have hTz : (B ++ ⟨Array.replicate c 0⟩ : ByteArray).size = 252 := by
      have := HBZ.out
      have e : (⟨Array.replicate c 0⟩ : ByteArray).size = c := by show Array.size _ = c; simp
      have := HCC.out
      simp [e]
      omega
    generalize (B ++ ⟨Array.replicate c 0⟩ : ByteArray) = T at *
    refine (refCrc_any T _ (by omega)).mono ?_
    rintro e w6 ⟨rfl, rfl⟩
    rw [hT]
    have hlt := crcB_lt (bodyB kind id next s.data.toList)
    obtain ⟨C, hC⟩ : ∃ K : ByteArray, (⟨(leb 4 (crcB (bodyB kind id next s.data.toList))).toArray⟩ : ByteArray) = K := ⟨_, rfl⟩
    have h6 := fun w => reffix_fit _ 4 4 w C rfl (by omega) (by omega) (by omega) (by omega) hC
    have hBC : T ++ C = ⟨(pageB kind id next s.data.toList).toArray⟩ := by
      apply ByteArray.ext
      apply Array.ext'
      rw [cat_data, hT, ← hC]
      simp [pageB]
    have hm : ¬ 9223372036854775807 < T.size + C.size := by
      have e : C.size = 4 := by rw [← hC]; show Array.size _ = 4; simp [leb_length]
      omega
    generalize crcB (bodyB kind id next s.data.toList) = x at *
    have H6 := Lib.hid h6
    have HBC := Lib.hid hBC
    have HB1 := Lib.hid hb1'
    have hs4 := hb4'.size
    have hs5 := hb5.size
    clear h6 hBC hC hT hTz hstr
    go_wp2_with fail
    refine (H6.out _).mono ?_
    rintro e w7 ⟨rfl, hb7⟩
    go_wp2_with fail
    rw [HBC.out]
    go_ret2
    have hz := HZ0.out
    exact ⟨rfl, HW0.out.trans ((hb4'.mono (by omega)).trans ((hb5.mono (by omega)).trans (hb7.mono (by omega))))⟩
  · have hl2 : 240 < (s.size : Int) := by omega
    rw [if_neg hl, if_neg hl]
    go_enter Tryd.func24, Tryd.ntmps24
    go_wp2_with fail
    go_ret2
    exact ⟨rfl, (Below.refl _ _).alloc (Nat.le_refl _) _⟩

/-- The document's own Seal, of any number and any content. -/
theorem refSeal_any (id kind next : Int) (s : ByteArray) (w : World) (hs : s.size ≤ 9223372036854775807) :
    Calls Tryd.prog 24 #[.int .i64 id, .agg #[.int .i64 kind, .int .i64 next, .string s]] w fun e w' => e = .returned (.tuple #[.string ⟨(sealB id kind next s.data.toList).toArray⟩, .int .i64 (sealE id kind next s.size)]) ∧ Below w.heap.size w w' := by
  have hl : s.data.toList.length = s.size := by simp
  by_cases h : SealOK id kind next
  · have h' := h
    obtain ⟨a, b, c, d, f, g⟩ := h'
    obtain ⟨i, rfl⟩ : ∃ i : Nat, id = i := ⟨id.toNat, by omega⟩
    obtain ⟨k, rfl⟩ : ∃ i : Nat, kind = i := ⟨kind.toNat, by omega⟩
    obtain ⟨n, rfl⟩ : ∃ i : Nat, next = i := ⟨next.toNat, by omega⟩
    have r := rseal_fit i k n s w (by omega) (by omega) (by omega) (by omega) hs
    unfold sealB sealE
    rw [hl, if_pos h]
    simp only [h, true_and, Int.toNat_natCast]
    exact r
  · unfold sealB sealE
    rw [if_neg h, if_neg (fun x => h x.1)]
    refine rseal_bad id kind next s w ?_
    unfold SealOK at h
    omega
end Go.Proofs.YthcpjpebahiikaaDoor
