/-
  Walks over package page, and the document's own: small words; the sum of one text. Walks over package page: Seal.
-/
import Derived.Test.YtpoocbkligjgbaaGreatDoorMg7
import Derived.Test.YtpoocbkligjgbaaGreatDoorMg1
import Derived.Deep.QuietTactic
import Derived.BigQuiet
import Derived.Deep.RegionHeld3
import Derived.StillTailTactics
namespace Go.Proofs.YtpoocbkligjgbaaGreatDoor
open Go.RowKit Go.Lib

theorem cat_data (a b : ByteArray) : (a ++ b).data.toList = a.data.toList ++ b.data.toList := by simp

theorem crc_cell (s : ByteArray) (g : Nat) (w : World) (hs : s.size ≤ 9223372036854775807) (hc : w.cell? ⟨g, 0, none⟩ = some (.string s)) :
    Calls Tryz.prog 127 #[.slice (some ⟨g, 0, none⟩) 1 1] w fun e w' => e = .returned (.int .i64 (crcB s.data.toList)) ∧ w = w' := by
  have hr : Reads1 w w.heap.size (.slice (some ⟨g, 0, none⟩) 1 1) ([s].map Value.string) := by
    refine ⟨_, _, rfl, fun _ => ⟨g, 0, rfl, World.block_lt_of_cell? w _ hc, fun j u hu => ?_⟩⟩
    match j, hu with
    | 0, hu => simp at hu; subst hu; exact hc
    | j + 1, hu => simp at hu
  have h := crc_any _ [s] _ hr (by simp) (by intro x hx; simp at hx; subst hx; exact hs)
  have e1 : flat [s] = s.data.toList := by simp [flat]
  rw [e1] at h
  exact h




end Go.Proofs.YtpoocbkligjgbaaGreatDoor

namespace Go.Proofs.YtpoocbkligjgbaaGreatDoor
open Go.RowKit Go.Lib

/-- Fix, its error told. -/
theorem fix_at (v n E : Int) (w : World) (hv : v ≤ 9223372036854775807) (h : fixE v n = E) :
    Calls Tryz.prog 142 #[.int .i64 v, .int .i64 n] w fun e w' => e = .returned (.tuple #[.string ⟨(fixB v n).toArray⟩, .int .i64 E]) ∧ Below w.heap.size w w' := by
  subst h
  exact fix_any v n w hv
theorem fix_fit (v n : Nat) (w : World) (x : ByteArray) (h1 : 1 ≤ n) (h7 : n ≤ 7) (hv : v ≤ 9223372036854775807) (hb : v < 2 ^ (8 * n)) (hx : (⟨(leb n v).toArray⟩ : ByteArray) = x) :
    Calls Tryz.prog 142 #[.int .i64 v, .int .i64 n] w fun e w' => e = .returned (.tuple #[.string x, .int .i64 0]) ∧ Below w.heap.size w w' := by
  subst hx
  exact fix_ok v n w h1 h7 hv hb

set_option maxRecDepth 100000 in
set_option maxHeartbeats 1000000 in
theorem pseal_bad (id kind next : Int) (s : ByteArray) (w : World) (hi : IsInt id) (hk : IsInt kind) (hn : IsInt next) (E1 E2 E3 : Int) (e1 : fixE kind 1 = E1) (e2 : fixE id 4 = E2) (e3 : fixE next 4 = E3)
    (h : (kind == 0) = true ∨ (kind == 0) = false ∧ (E1 != 0) = true ∨ (kind == 0) = false ∧ (E1 != 0) = false ∧ (E2 != 0) = true ∨ (kind == 0) = false ∧ (E1 != 0) = false ∧ (E2 != 0) = false ∧ (E3 != 0) = true) :
    Calls Tryz.prog 93 #[.int .i64 id, .agg #[.int .i64 kind, .int .i64 next, .string s]] w fun e w' => e = .returned (.tuple #[.string ⟨#[]⟩, .int .i64 1]) ∧ Below w.heap.size w w' := by
  have h1 := fun w => fix_at kind 1 E1 w hk.2 e1
  have h2 := fun w => fix_at id 4 E2 w hi.2 e2
  have h3 := fun w => fix_at next 4 E3 w hn.2 e3
  have H1 := Lib.hid h1
  have H2 := Lib.hid h2
  have H3 := Lib.hid h3
  clear h1 h2 h3 e1 e2 e3 hi hk hn
  rcases h with h | ⟨h, ha⟩ | ⟨h, ha, hb⟩ | ⟨h, ha, hb, hc⟩
  all_goals
    go_enter Tryz.func93, Tryz.ntmps93
    go_wp2_with fail
    refine (H1.out _).mono ?_
    rintro e w1 ⟨rfl, hb1⟩
    have hs1 := hb1.size
    have hH : Has w1 w.heap.size 60 #[.int .i64 kind, .int .i64 next, .string s] := (Has.made w 60 _).below hb1 (by simp)
    have q0 : w1.cell? ⟨w.heap.size, 0, none⟩ = some (.int .i64 kind) := hH.cell 0
    have q1 : w1.cell? ⟨w.heap.size, 1, none⟩ = some (.int .i64 next) := hH.cell 1
    go_wp2_with fail
    refine (H2.out _).mono ?_
    rintro e w2 ⟨rfl, hb2⟩
    have hs2 := hb2.size
    have hH2 := hH.below hb2 hH.inside
    have r0 : w2.cell? ⟨w.heap.size, 0, none⟩ = some (.int .i64 kind) := hH2.cell 0
    have r1 : w2.cell? ⟨w.heap.size, 1, none⟩ = some (.int .i64 next) := hH2.cell 1
    go_wp2_with fail
    refine (H3.out _).mono ?_
    rintro e w3 ⟨rfl, hb3⟩
    have hH3 := hH2.below hb3 hH2.inside
    have t0 : w3.cell? ⟨w.heap.size, 0, none⟩ = some (.int .i64 kind) := hH3.cell 0
    go_wp2_with fail
    go_ret2
    simp at hs1
    exact ⟨rfl, (((Below.refl _ _).alloc (Nat.le_refl _) _).trans (hb1.mono (by simp))).trans ((hb2.mono (by omega)).trans (hb3.mono (by omega)))⟩

set_option maxRecDepth 100000 in
set_option maxHeartbeats 2000000 in
theorem pseal_fit (id kind next : Nat) (s : ByteArray) (w : World) (hi : id < 4294967296) (hn : next < 4294967296) (hk0 : 0 < kind) (hk : kind < 256) (hs0 : s.size ≤ 9223372036854775807) :
    Calls Tryz.prog 93 #[.int .i64 id, .agg #[.int .i64 kind, .int .i64 next, .string s]] w fun e w' => e = .returned (.tuple #[.string ⟨(if s.size ≤ 240 then pageB kind id next s.data.toList else []).toArray⟩, .int .i64 (if s.size ≤ 240 then 0 else 2)]) ∧ Below w.heap.size w w' := by
  obtain ⟨K, hK⟩ : ∃ K : ByteArray, (⟨(leb 1 kind).toArray⟩ : ByteArray) = K := ⟨_, rfl⟩
  obtain ⟨I, hI⟩ : ∃ K : ByteArray, (⟨(leb 4 id).toArray⟩ : ByteArray) = K := ⟨_, rfl⟩
  obtain ⟨N, hN⟩ : ∃ K : ByteArray, (⟨(leb 4 next).toArray⟩ : ByteArray) = K := ⟨_, rfl⟩
  have h1 := fun w => fix_fit kind 1 w K (by omega) (by omega) (by omega) (by omega) hK
  have h2 := fun w => fix_fit id 4 w I (by omega) (by omega) (by omega) (by omega) hI
  have h3 := fun w => fix_fit next 4 w N (by omega) (by omega) (by omega) (by omega) hN
  have k1 : K.data.toList = leb 1 kind := by rw [← hK]
  have k2 : I.data.toList = leb 4 id := by rw [← hI]
  have k3 : N.data.toList = leb 4 next := by rw [← hN]
  have z1 : K.size = 1 := by have := congrArg List.length k1; rw [leb_length] at this; simpa using this
  have z2 : I.size = 4 := by have := congrArg List.length k2; rw [leb_length] at this; simpa using this
  have z3 : N.size = 4 := by have := congrArg List.length k3; rw [leb_length] at this; simpa using this
  have e1 : ((kind : Int) == 0) = false := beq_eq_false_iff_ne.2 (by omega)
  have H1 := Lib.hid h1
  have H2 := Lib.hid h2
  have H3 := Lib.hid h3
  have HK := Lib.hid k1
  have HI := Lib.hid k2
  have HN := Lib.hid k3
  have HZ := Lib.hid (And.intro z1 (And.intro z2 z3))
  clear h1 h2 h3 k1 k2 k3 z1 z2 z3 hK hI hN hi hn hk hk0
  by_cases hl : s.size ≤ 240
  · have hl2 : ¬ 240 < (s.size : Int) := by omega
    rw [if_pos hl, if_pos hl]
    obtain ⟨Z, hZ⟩ : ∃ K : ByteArray, (⟨(leb 2 s.size).toArray⟩ : ByteArray) = K := ⟨_, rfl⟩
    obtain ⟨R, hR⟩ : ∃ K : ByteArray, (⟨(Lib.repeatL (⟨#[0]⟩ : ByteArray).data.toList (241 - s.size)).toArray⟩ : ByteArray) = K := ⟨_, rfl⟩
    have h4 := fun w => fix_fit s.size 2 w Z (by omega) (by omega) (by omega) (by omega) hZ
    have h5 := fun w => Tryz.strings_Repeat ⟨#[0]⟩ (241 - s.size) w (by omega) (by show 1 * _ ≤ _; omega)
    rw [hR, show ((241 - s.size : Nat) : Int) = 241 - (s.size : Int) by omega] at h5
    have k4 : Z.data.toList = leb 2 s.size := by rw [← hZ]
    have z4 : Z.size = 2 := by have := congrArg List.length k4; rw [leb_length] at this; simpa using this
    have k5 : R.data.toList = List.replicate (241 - s.size) 0 := by
      rw [← hR]
      show Lib.repeatL [0] _ = _
      generalize 241 - s.size = c
      induction c with
      | zero => rfl
      | succ c ih => rw [Lib.repeatL, ih]; rfl
    have z5 : R.size = 241 - s.size := by have := congrArg List.length k5; simpa using this
    have hB : (K ++ I ++ N ++ Z ++ s ++ R).data.toList = bodyB kind id next s.data.toList := by
      simp only [cat_data, HK.out, HI.out, HN.out, k4, k5, bodyB, headB, List.append_assoc]
      simp
    have hBz : (K ++ I ++ N ++ Z ++ s ++ R).size = 252 := by
      have := HZ.out
      simp
      omega
    have H4 := Lib.hid h4
    have H5 := Lib.hid h5
    have HB := Lib.hid hB
    have HBZ := Lib.hid hBz
    have HZ4 := Lib.hid (And.intro z4 z5)
    clear h4 h5 k4 k5 z4 z5 hB hBz hZ hR
    go_enter Tryz.func93, Tryz.ntmps93
    go_wp2_with fail
    refine (H1.out _).mono ?_
    rintro e w1 ⟨rfl, hb1⟩
    have hs1 := hb1.size
    have hH : Has w1 w.heap.size 60 #[.int .i64 kind, .int .i64 next, .string s] := (Has.made w 60 _).below hb1 (by simp)
    have q0 : w1.cell? ⟨w.heap.size, 0, none⟩ = some (.int .i64 kind) := hH.cell 0
    have q1 : w1.cell? ⟨w.heap.size, 1, none⟩ = some (.int .i64 next) := hH.cell 1
    go_wp2_with fail
    refine (H2.out _).mono ?_
    rintro e w2 ⟨rfl, hb2⟩
    have hs2 := hb2.size
    have hH2 := hH.below hb2 hH.inside
    have r0 : w2.cell? ⟨w.heap.size, 0, none⟩ = some (.int .i64 kind) := hH2.cell 0
    have r1 : w2.cell? ⟨w.heap.size, 1, none⟩ = some (.int .i64 next) := hH2.cell 1
    go_wp2_with fail
    refine (H3.out _).mono ?_
    rintro e w3 ⟨rfl, hb3⟩
    have hs3 := hb3.size
    have hH3 := hH2.below hb3 hH2.inside
    have t0 : w3.cell? ⟨w.heap.size, 0, none⟩ = some (.int .i64 kind) := hH3.cell 0
    have t2 : w3.cell? ⟨w.heap.size, 2, none⟩ = some (.string s) := hH3.cell 2
    go_wp2_with fail
    refine (H4.out _).mono ?_
    rintro e w4 ⟨rfl, hb4⟩
    have hs4 := hb4.size
    have hH4 := hH3.below hb4 hH3.inside
    have u2 : w4.cell? ⟨w.heap.size, 2, none⟩ = some (.string s) := hH4.cell 2
    go_wp2_with fail
    refine (H5.out _).mono ?_
    rintro e w5 ⟨rfl, hb5⟩
    have hs5 := hb5.size
    have hH5 := hH4.below hb5 hH4.inside
    have v2 : w5.cell? ⟨w.heap.size, 2, none⟩ = some (.string s) := hH5.cell 2
    have m1 : ¬ 9223372036854775807 < K.size + I.size := by have := HZ.out; omega
    have m2 : ¬ 9223372036854775807 < K.size + I.size + N.size := by have := HZ.out; omega
    have m3 : ¬ 9223372036854775807 < K.size + I.size + N.size + Z.size := by have := HZ.out; have := HZ4.out; omega
    have m4 : ¬ 9223372036854775807 < K.size + I.size + N.size + Z.size + s.size := by have := HZ.out; have := HZ4.out; omega
    have m5 : ¬ 9223372036854775807 < K.size + I.size + N.size + Z.size + s.size + R.size := by have := HZ.out; have := HZ4.out; omega
    go_wp2_with fail
    clear m1 m2 m3 m4 m5 HZ HZ4
    generalize K ++ I ++ N ++ Z ++ s ++ R = B at *
    refine (crc_cell B _ _ (by rw [HBZ.out]; decide) (by go_simp)).mono ?_
    rintro e w6 ⟨rfl, rfl⟩
    rw [HB.out]
    have hlt := crcB_lt (bodyB kind id next s.data.toList)
    obtain ⟨C, hC⟩ : ∃ K : ByteArray, (⟨(leb 4 (crcB (bodyB kind id next s.data.toList))).toArray⟩ : ByteArray) = K := ⟨_, rfl⟩
    have h6 := fun w => fix_fit _ 4 w C (by omega) (by omega) (by omega) (by omega) hC
    have hBC : B ++ C = ⟨(pageB kind id next s.data.toList).toArray⟩ := by
      apply ByteArray.ext
      apply Array.ext'
      rw [cat_data, HB.out, ← hC]
      simp [pageB]
    have hm : ¬ 9223372036854775807 < B.size + C.size := by
      have e : C.size = 4 := by rw [← hC]; show Array.size _ = 4; simp [leb_length]
      have := HBZ.out
      omega
    generalize crcB (bodyB kind id next s.data.toList) = x at *
    have H6 := Lib.hid h6
    have HBC := Lib.hid hBC
    clear h6 hBC hC
    go_wp2_with fail
    refine (H6.out _).mono ?_
    rintro e w7 ⟨rfl, hb7⟩
    go_wp2_with fail
    rw [HBC.out]
    go_ret2
    simp at hs1
    have hb5' : Below w.heap.size w w5 := (((Below.refl _ _).alloc (Nat.le_refl _) _).trans (hb1.mono (by simp))).trans ((hb2.mono (by omega)).trans ((hb3.mono (by omega)).trans ((hb4.mono (by omega)).trans (hb5.mono (by omega)))))
    exact ⟨rfl, (hb5'.alloc hb5'.size _).trans (hb7.mono (by simp; omega))⟩
  · have hl2 : 240 < (s.size : Int) := by omega
    rw [if_neg hl, if_neg hl]
    go_enter Tryz.func93, Tryz.ntmps93
    go_wp2_with fail
    refine (H1.out _).mono ?_
    rintro e w1 ⟨rfl, hb1⟩
    have hs1 := hb1.size
    have hH : Has w1 w.heap.size 60 #[.int .i64 kind, .int .i64 next, .string s] := (Has.made w 60 _).below hb1 (by simp)
    have q0 : w1.cell? ⟨w.heap.size, 0, none⟩ = some (.int .i64 kind) := hH.cell 0
    have q1 : w1.cell? ⟨w.heap.size, 1, none⟩ = some (.int .i64 next) := hH.cell 1
    go_wp2_with fail
    refine (H2.out _).mono ?_
    rintro e w2 ⟨rfl, hb2⟩
    have hs2 := hb2.size
    have hH2 := hH.below hb2 hH.inside
    have r0 : w2.cell? ⟨w.heap.size, 0, none⟩ = some (.int .i64 kind) := hH2.cell 0
    have r1 : w2.cell? ⟨w.heap.size, 1, none⟩ = some (.int .i64 next) := hH2.cell 1
    go_wp2_with fail
    refine (H3.out _).mono ?_
    rintro e w3 ⟨rfl, hb3⟩
    have hH3 := hH2.below hb3 hH2.inside
    have t0 : w3.cell? ⟨w.heap.size, 0, none⟩ = some (.int .i64 kind) := hH3.cell 0
    have t2 : w3.cell? ⟨w.heap.size, 2, none⟩ = some (.string s) := hH3.cell 2
    go_wp2_with fail
    go_ret2
    simp at hs1
    exact ⟨rfl, (((Below.refl _ _).alloc (Nat.le_refl _) _).trans (hb1.mono (by simp))).trans ((hb2.mono (by omega)).trans (hb3.mono (by omega)))⟩

theorem fixE_fit {v n : Int} (h : 0 ≤ v ∧ v < 2 ^ (8 * n.toNat)) (h1 : 1 ≤ n) (h7 : n ≤ 7) : fixE v n = 0 := by rw [fixE, if_pos ⟨h1, h7, h.1, h.2⟩]
theorem fixE_not {v n : Int} (h : ¬ (0 ≤ v ∧ v < 2 ^ (8 * n.toNat))) : fixE v n = 1 := by rw [fixE, if_neg (fun h' => h ⟨h'.2.2.1, h'.2.2.2⟩)]

/-- Seal, of any number and any content. -/
theorem seal_any (id kind next : Int) (s : ByteArray) (w : World) (hi : IsInt id) (hk : IsInt kind) (hn : IsInt next) (hs : s.size ≤ 9223372036854775807) :
    Calls Tryz.prog 93 #[.int .i64 id, .agg #[.int .i64 kind, .int .i64 next, .string s]] w fun e w' => e = .returned (.tuple #[.string ⟨(sealB id kind next s.data.toList).toArray⟩, .int .i64 (sealE id kind next s.size)]) ∧ Below w.heap.size w w' := by
  have hl : s.data.toList.length = s.size := by simp
  have p1 : (2 : Int) ^ (8 * (1 : Int).toNat) = 256 := by decide
  have p4 : (2 : Int) ^ (8 * (4 : Int).toNat) = 4294967296 := by decide
  by_cases h : SealOK id kind next
  · have h' := h
    obtain ⟨a, b, c, d, f, g⟩ := h'
    obtain ⟨i, rfl⟩ : ∃ i : Nat, id = i := ⟨id.toNat, by omega⟩
    obtain ⟨k, rfl⟩ : ∃ i : Nat, kind = i := ⟨kind.toNat, by omega⟩
    obtain ⟨n, rfl⟩ : ∃ i : Nat, next = i := ⟨next.toNat, by omega⟩
    have r := pseal_fit i k n s w (by omega) (by omega) (by omega) (by omega) hs
    unfold sealB sealE
    rw [hl, if_pos h]
    simp only [h, true_and, Int.toNat_natCast]
    exact r
  · unfold sealB sealE
    rw [if_neg h, if_neg (fun x => h x.1)]
    refine pseal_bad id kind next s w hi hk hn _ _ _ rfl rfl rfl ?_
    by_cases a : kind = 0
    · exact .inl (by simpa using a)
    · refine .inr ?_
      by_cases b : 0 ≤ kind ∧ kind < 2 ^ (8 * (1 : Int).toNat)
      · refine .inr ?_
        have b' := b
        rw [p1] at b'
        by_cases c : 0 ≤ id ∧ id < 2 ^ (8 * (4 : Int).toNat)
        · refine .inr ⟨by simpa using a, by rw [fixE_fit b (by omega) (by omega)]; rfl, by rw [fixE_fit c (by omega) (by omega)]; rfl, ?_⟩
          rw [p4] at c
          rw [fixE_not (by rw [p4]; intro d; exact h ⟨c.1, c.2, d.1, d.2, by omega, b'.2⟩)]
          rfl
        · exact .inl ⟨by simpa using a, by rw [fixE_fit b (by omega) (by omega)]; rfl, by rw [fixE_not c]; rfl⟩
      · exact .inl ⟨by simpa using a, by rw [fixE_not b]; rfl⟩
end Go.Proofs.YtpoocbkligjgbaaGreatDoor
