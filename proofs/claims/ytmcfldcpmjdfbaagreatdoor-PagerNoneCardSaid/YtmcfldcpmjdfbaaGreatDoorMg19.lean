/-
  Walks over package page: Seal. A pager's calls that lay a page into its map: keep, set. Free pages: Give and Release.
-/
import Derived.Test.YtmcfldcpmjdfbaaGreatDoorMg17
import Derived.Test.YtmcfldcpmjdfbaaGreatDoorMg18
import Derived.StillTailTactics
import Derived.Test.YtmcfldcpmjdfbaaGreatDoorMg8
namespace Go.Proofs.YtmcfldcpmjdfbaaGreatDoor
open Go.RowKit Go.Lib

/-- Fix, its error told. -/
theorem fix_at (v n E : Int) (w : World) (hv : v ≤ 9223372036854775807) (h : fixE v n = E) :
    Calls Tryz.prog 90 #[.int .i64 v, .int .i64 n] w fun e w' => e = .returned (.tuple #[.string ⟨(fixB v n).toArray⟩, .int .i64 E]) ∧ Below w.heap.size w w' := by
  subst h
  exact fix_any v n w hv
theorem fix_fit (v n : Nat) (w : World) (x : ByteArray) (h1 : 1 ≤ n) (h7 : n ≤ 7) (hv : v ≤ 9223372036854775807) (hb : v < 2 ^ (8 * n)) (hx : (⟨(leb n v).toArray⟩ : ByteArray) = x) :
    Calls Tryz.prog 90 #[.int .i64 v, .int .i64 n] w fun e w' => e = .returned (.tuple #[.string x, .int .i64 0]) ∧ Below w.heap.size w w' := by
  subst hx
  exact fix_ok v n w h1 h7 hv hb

set_option maxRecDepth 100000 in
set_option maxHeartbeats 1000000 in
theorem pseal_bad (id kind next : Int) (s : ByteArray) (w : World) (hi : IsInt id) (hk : IsInt kind) (hn : IsInt next) (E1 E2 E3 : Int) (e1 : fixE kind 1 = E1) (e2 : fixE id 4 = E2) (e3 : fixE next 4 = E3)
    (h : (kind == 0) = true ∨ (kind == 0) = false ∧ (E1 != 0) = true ∨ (kind == 0) = false ∧ (E1 != 0) = false ∧ (E2 != 0) = true ∨ (kind == 0) = false ∧ (E1 != 0) = false ∧ (E2 != 0) = false ∧ (E3 != 0) = true) :
    Calls Tryz.prog 67 #[.int .i64 id, .agg #[.int .i64 kind, .int .i64 next, .string s]] w fun e w' => e = .returned (.tuple #[.string ⟨#[]⟩, .int .i64 1]) ∧ Below w.heap.size w w' := by
  have h1 := fun w => fix_at kind 1 E1 w hk.2 e1
  have h2 := fun w => fix_at id 4 E2 w hi.2 e2
  have h3 := fun w => fix_at next 4 E3 w hn.2 e3
  have H1 := Lib.hid h1
  have H2 := Lib.hid h2
  have H3 := Lib.hid h3
  clear h1 h2 h3 e1 e2 e3 hi hk hn
  rcases h with h | ⟨h, ha⟩ | ⟨h, ha, hb⟩ | ⟨h, ha, hb, hc⟩
  all_goals
    go_enter Tryz.func67, Tryz.ntmps67
    go_wp2_with fail
    refine (H1.out _).mono ?_
    rintro e w1 ⟨rfl, hb1⟩
    have hs1 := hb1.size
    have hH : Has w1 w.heap.size 23 #[.int .i64 kind, .int .i64 next, .string s] := (Has.made w 23 _).below hb1 (by simp)
    have q0 : w1.cell? ⟨w.heap.size, 0, none⟩ = some (.int .i64 kind) := hH.cell 0
    have q1 : w1.cell? ⟨w.heap.size, 1, none⟩ = some (.int .i64 next) := hH.cell 1
    go_wp2_with fail
    refine (H2.out _).mono ?_
    rintro e w2 ⟨rfl, hb2⟩
    have hs2 := hb2.size
    have hH2 := hH.below hb2 hH.inside
    have r0 : w2.cell? ⟨w.heap.size, 0, none⟩ = some (.int .i64 kind) := hH2.cell 0
    have r1 : w2.cell? ⟨w.heap.size, 1, none⟩ = some (.int .i64 next) := hH2.cell 1
    go_wp2_with fail
    refine (H3.out _).mono ?_
    rintro e w3 ⟨rfl, hb3⟩
    have hH3 := hH2.below hb3 hH2.inside
    have t0 : w3.cell? ⟨w.heap.size, 0, none⟩ = some (.int .i64 kind) := hH3.cell 0
    go_wp2_with fail
    go_ret2
    simp at hs1
    exact ⟨rfl, (((Below.refl _ _).alloc (Nat.le_refl _) _).trans (hb1.mono (by simp))).trans ((hb2.mono (by omega)).trans (hb3.mono (by omega)))⟩

set_option maxRecDepth 100000 in
set_option maxHeartbeats 2000000 in
theorem pseal_fit (id kind next : Nat) (s : ByteArray) (w : World) (hi : id < 4294967296) (hn : next < 4294967296) (hk0 : 0 < kind) (hk : kind < 256) (hs0 : s.size ≤ 9223372036854775807) :
    Calls Tryz.prog 67 #[.int .i64 id, .agg #[.int .i64 kind, .int .i64 next, .string s]] w fun e w' => e = .returned (.tuple #[.string ⟨(if s.size ≤ 240 then pageB kind id next s.data.toList else []).toArray⟩, .int .i64 (if s.size ≤ 240 then 0 else 2)]) ∧ Below w.heap.size w w' := by
  obtain ⟨K, hK⟩ : ∃ K : ByteArray, (⟨(leb 1 kind).toArray⟩ : ByteArray) = K := ⟨_, rfl⟩
  obtain ⟨I, hI⟩ : ∃ K : ByteArray, (⟨(leb 4 id).toArray⟩ : ByteArray) = K := ⟨_, rfl⟩
  obtain ⟨N, hN⟩ : ∃ K : ByteArray, (⟨(leb 4 next).toArray⟩ : ByteArray) = K := ⟨_, rfl⟩
  have h1 := fun w => fix_fit kind 1 w K (by omega) (by omega) (by omega) (by omega) hK
  have h2 := fun w => fix_fit id 4 w I (by omega) (by omega) (by omega) (by omega) hI
  have h3 := fun w => fix_fit next 4 w N (by omega) (by omega) (by omega) (by omega) hN
  have k1 : K.data.toList = leb 1 kind := by rw [← hK]
  have k2 : I.data.toList = leb 4 id := by rw [← hI]
  have k3 : N.data.toList = leb 4 next := by rw [← hN]
  have z1 : K.size = 1 := by have := congrArg List.length k1; rw [leb_length] at this; simpa using this
  have z2 : I.size = 4 := by have := congrArg List.length k2; rw [leb_length] at this; simpa using this
  have z3 : N.size = 4 := by have := congrArg List.length k3; rw [leb_length] at this; simpa using this
  have e1 : ((kind : Int) == 0) = false := beq_eq_false_iff_ne.2 (by omega)
  have H1 := Lib.hid h1
  have H2 := Lib.hid h2
  have H3 := Lib.hid h3
  have HK := Lib.hid k1
  have HI := Lib.hid k2
  have HN := Lib.hid k3
  have HZ := Lib.hid (And.intro z1 (And.intro z2 z3))
  clear h1 h2 h3 k1 k2 k3 z1 z2 z3 hK hI hN hi hn hk hk0
  by_cases hl : s.size ≤ 240
  · have hl2 : ¬ 240 < (s.size : Int) := by omega
    rw [if_pos hl, if_pos hl]
    obtain ⟨Z, hZ⟩ : ∃ K : ByteArray, (⟨(leb 2 s.size).toArray⟩ : ByteArray) = K := ⟨_, rfl⟩
    obtain ⟨R, hR⟩ : ∃ K : ByteArray, (⟨(Lib.repeatL (⟨#[0]⟩ : ByteArray).data.toList (241 - s.size)).toArray⟩ : ByteArray) = K := ⟨_, rfl⟩
    have h4 := fun w => fix_fit s.size 2 w Z (by omega) (by omega) (by omega) (by omega) hZ
    have h5 := fun w => Tryz.strings_Repeat ⟨#[0]⟩ (241 - s.size) w (by omega) (by show 1 * _ ≤ _; omega)
    rw [hR, show ((241 - s.size : Nat) : Int) = 241 - (s.size : Int) by omega] at h5
    have k4 : Z.data.toList = leb 2 s.size := by rw [← hZ]
    have z4 : Z.size = 2 := by have := congrArg List.length k4; rw [leb_length] at this; simpa using this
    have k5 : R.data.toList = List.replicate (241 - s.size) 0 := by
      rw [← hR]
      show Lib.repeatL [0] _ = _
      generalize 241 - s.size = c
      induction c with
      | zero => rfl
      | succ c ih => rw [Lib.repeatL, ih]; rfl
    have z5 : R.size = 241 - s.size := by have := congrArg List.length k5; simpa using this
    have hB : (K ++ I ++ N ++ Z ++ s ++ R).data.toList = bodyB kind id next s.data.toList := by
      simp only [cat_data, HK.out, HI.out, HN.out, k4, k5, bodyB, headB, List.append_assoc]
      simp
    have hBz : (K ++ I ++ N ++ Z ++ s ++ R).size = 252 := by
      have := HZ.out
      simp
      omega
    have H4 := Lib.hid h4
    have H5 := Lib.hid h5
    have HB := Lib.hid hB
    have HBZ := Lib.hid hBz
    have HZ4 := Lib.hid (And.intro z4 z5)
    clear h4 h5 k4 k5 z4 z5 hB hBz hZ hR
    go_enter Tryz.func67, Tryz.ntmps67
    go_wp2_with fail
    refine (H1.out _).mono ?_
    rintro e w1 ⟨rfl, hb1⟩
    have hs1 := hb1.size
    have hH : Has w1 w.heap.size 23 #[.int .i64 kind, .int .i64 next, .string s] := (Has.made w 23 _).below hb1 (by simp)
    have q0 : w1.cell? ⟨w.heap.size, 0, none⟩ = some (.int .i64 kind) := hH.cell 0
    have q1 : w1.cell? ⟨w.heap.size, 1, none⟩ = some (.int .i64 next) := hH.cell 1
    go_wp2_with fail
    refine (H2.out _).mono ?_
    rintro e w2 ⟨rfl, hb2⟩
    have hs2 := hb2.size
    have hH2 := hH.below hb2 hH.inside
    have r0 : w2.cell? ⟨w.heap.size, 0, none⟩ = some (.int .i64 kind) := hH2.cell 0
    have r1 : w2.cell? ⟨w.heap.size, 1, none⟩ = some (.int .i64 next) := hH2.cell 1
    go_wp2_with fail
    refine (H3.out _).mono ?_
    rintro e w3 ⟨rfl, hb3⟩
    have hs3 := hb3.size
    have hH3 := hH2.below hb3 hH2.inside
    have t0 : w3.cell? ⟨w.heap.size, 0, none⟩ = some (.int .i64 kind) := hH3.cell 0
    have t2 : w3.cell? ⟨w.heap.size, 2, none⟩ = some (.string s) := hH3.cell 2
    go_wp2_with fail
    refine (H4.out _).mono ?_
    rintro e w4 ⟨rfl, hb4⟩
    have hs4 := hb4.size
    have hH4 := hH3.below hb4 hH3.inside
    have u2 : w4.cell? ⟨w.heap.size, 2, none⟩ = some (.string s) := hH4.cell 2
    go_wp2_with fail
    refine (H5.out _).mono ?_
    rintro e w5 ⟨rfl, hb5⟩
    have hs5 := hb5.size
    have hH5 := hH4.below hb5 hH4.inside
    have v2 : w5.cell? ⟨w.heap.size, 2, none⟩ = some (.string s) := hH5.cell 2
    have m1 : ¬ 9223372036854775807 < K.size + I.size := by have := HZ.out; omega
    have m2 : ¬ 9223372036854775807 < K.size + I.size + N.size := by have := HZ.out; omega
    have m3 : ¬ 9223372036854775807 < K.size + I.size + N.size + Z.size := by have := HZ.out; have := HZ4.out; omega
    have m4 : ¬ 9223372036854775807 < K.size + I.size + N.size + Z.size + s.size := by have := HZ.out; have := HZ4.out; omega
    have m5 : ¬ 9223372036854775807 < K.size + I.size + N.size + Z.size + s.size + R.size := by have := HZ.out; have := HZ4.out; omega
    go_wp2_with fail
    clear m1 m2 m3 m4 m5 HZ HZ4
    generalize K ++ I ++ N ++ Z ++ s ++ R = B at *
    refine (crc_cell B _ _ (by rw [HBZ.out]; decide) (by go_simp)).mono ?_
    rintro e w6 ⟨rfl, rfl⟩
    rw [HB.out]
    have hlt := crcB_lt (bodyB kind id next s.data.toList)
    obtain ⟨C, hC⟩ : ∃ K : ByteArray, (⟨(leb 4 (crcB (bodyB kind id next s.data.toList))).toArray⟩ : ByteArray) = K := ⟨_, rfl⟩
    have h6 := fun w => fix_fit _ 4 w C (by omega) (by omega) (by omega) (by omega) hC
    have hBC : B ++ C = ⟨(pageB kind id next s.data.toList).toArray⟩ := by
      apply ByteArray.ext
      apply Array.ext'
      rw [cat_data, HB.out, ← hC]
      simp [pageB]
    have hm : ¬ 9223372036854775807 < B.size + C.size := by
      have e : C.size = 4 := by rw [← hC]; show Array.size _ = 4; simp [leb_length]
      have := HBZ.out
      omega
    generalize crcB (bodyB kind id next s.data.toList) = x at *
    have H6 := Lib.hid h6
    have HBC := Lib.hid hBC
    clear h6 hBC hC
    go_wp2_with fail
    refine (H6.out _).mono ?_
    rintro e w7 ⟨rfl, hb7⟩
    go_wp2_with fail
    rw [HBC.out]
    go_ret2
    simp at hs1
    have hb5' : Below w.heap.size w w5 := (((Below.refl _ _).alloc (Nat.le_refl _) _).trans (hb1.mono (by simp))).trans ((hb2.mono (by omega)).trans ((hb3.mono (by omega)).trans ((hb4.mono (by omega)).trans (hb5.mono (by omega)))))
    exact ⟨rfl, (hb5'.alloc hb5'.size _).trans (hb7.mono (by simp; omega))⟩
  · have hl2 : 240 < (s.size : Int) := by omega
    rw [if_neg hl, if_neg hl]
    go_enter Tryz.func67, Tryz.ntmps67
    go_wp2_with fail
    refine (H1.out _).mono ?_
    rintro e w1 ⟨rfl, hb1⟩
    have hs1 := hb1.size
    have hH : Has w1 w.heap.size 23 #[.int .i64 kind, .int .i64 next, .string s] := (Has.made w 23 _).below hb1 (by simp)
    have q0 : w1.cell? ⟨w.heap.size, 0, none⟩ = some (.int .i64 kind) := hH.cell 0
    have q1 : w1.cell? ⟨w.heap.size, 1, none⟩ = some (.int .i64 next) := hH.cell 1
    go_wp2_with fail
    refine (H2.out _).mono ?_
    rintro e w2 ⟨rfl, hb2⟩
    have hs2 := hb2.size
    have hH2 := hH.below hb2 hH.inside
    have r0 : w2.cell? ⟨w.heap.size, 0, none⟩ = some (.int .i64 kind) := hH2.cell 0
    have r1 : w2.cell? ⟨w.heap.size, 1, none⟩ = some (.int .i64 next) := hH2.cell 1
    go_wp2_with fail
    refine (H3.out _).mono ?_
    rintro e w3 ⟨rfl, hb3⟩
    have hH3 := hH2.below hb3 hH2.inside
    have t0 : w3.cell? ⟨w.heap.size, 0, none⟩ = some (.int .i64 kind) := hH3.cell 0
    have t2 : w3.cell? ⟨w.heap.size, 2, none⟩ = some (.string s) := hH3.cell 2
    go_wp2_with fail
    go_ret2
    simp at hs1
    exact ⟨rfl, (((Below.refl _ _).alloc (Nat.le_refl _) _).trans (hb1.mono (by simp))).trans ((hb2.mono (by omega)).trans (hb3.mono (by omega)))⟩

theorem fixE_fit {v n : Int} (h : 0 ≤ v ∧ v < 2 ^ (8 * n.toNat)) (h1 : 1 ≤ n) (h7 : n ≤ 7) : fixE v n = 0 := by rw [fixE, if_pos ⟨h1, h7, h.1, h.2⟩]
theorem fixE_not {v n : Int} (h : ¬ (0 ≤ v ∧ v < 2 ^ (8 * n.toNat))) : fixE v n = 1 := by rw [fixE, if_neg (fun h' => h ⟨h'.2.2.1, h'.2.2.2⟩)]

/-- Seal, of any number and any content. -/
theorem seal_any (id kind next : Int) (s : ByteArray) (w : World) (hi : IsInt id) (hk : IsInt kind) (hn : IsInt next) (hs : s.size ≤ 9223372036854775807) :
    Calls Tryz.prog 67 #[.int .i64 id, .agg #[.int .i64 kind, .int .i64 next, .string s]] w fun e w' => e = .returned (.tuple #[.string ⟨(sealB id kind next s.data.toList).toArray⟩, .int .i64 (sealE id kind next s.size)]) ∧ Below w.heap.size w w' := by
  have hl : s.data.toList.length = s.size := by simp
  have p1 : (2 : Int) ^ (8 * (1 : Int).toNat) = 256 := by decide
  have p4 : (2 : Int) ^ (8 * (4 : Int).toNat) = 4294967296 := by decide
  by_cases h : SealOK id kind next
  · have h' := h
    obtain ⟨a, b, c, d, f, g⟩ := h'
    obtain ⟨i, rfl⟩ : ∃ i : Nat, id = i := ⟨id.toNat, by omega⟩
    obtain ⟨k, rfl⟩ : ∃ i : Nat, kind = i := ⟨kind.toNat, by omega⟩
    obtain ⟨n, rfl⟩ : ∃ i : Nat, next = i := ⟨next.toNat, by omega⟩
    have r := pseal_fit i k n s w (by omega) (by omega) (by omega) (by omega) hs
    unfold sealB sealE
    rw [hl, if_pos h]
    simp only [h, true_and, Int.toNat_natCast]
    exact r
  · unfold sealB sealE
    rw [if_neg h, if_neg (fun x => h x.1)]
    refine pseal_bad id kind next s w hi hk hn _ _ _ rfl rfl rfl ?_
    by_cases a : kind = 0
    · exact .inl (by simpa using a)
    · refine .inr ?_
      by_cases b : 0 ≤ kind ∧ kind < 2 ^ (8 * (1 : Int).toNat)
      · refine .inr ?_
        have b' := b
        rw [p1] at b'
        by_cases c : 0 ≤ id ∧ id < 2 ^ (8 * (4 : Int).toNat)
        · refine .inr ⟨by simpa using a, by rw [fixE_fit b (by omega) (by omega)]; rfl, by rw [fixE_fit c (by omega) (by omega)]; rfl, ?_⟩
          rw [p4] at c
          rw [fixE_not (by rw [p4]; intro d; exact h ⟨c.1, c.2, d.1, d.2, by omega, b'.2⟩)]
          rfl
        · exact .inl ⟨by simpa using a, by rw [fixE_fit b (by omega) (by omega)]; rfl, by rw [fixE_not c]; rfl⟩
      · exact .inl ⟨by simpa using a, by rw [fixE_not b]; rfl⟩
end Go.Proofs.YtmcfldcpmjdfbaaGreatDoor

namespace Go.Proofs.YtmcfldcpmjdfbaaGreatDoor
open Go.RowKit Go.Sort

section
variable {p pd pf b : Nat} {s : PgS} {F : List Nat} {w : World}

/-- A pager of which a page was made. -/
def keptS (s : PgS) (x : Int) (c : Chg) : PgS := { s with n := s.n + 1, H := upd s.H x c }

set_option maxRecDepth 1000000 in
set_option maxHeartbeats 2000000 in
theorem gkeep_any (x k n : Int) (t : ByteArray) (hx : IsInt x) (hs : t.size ≤ 281474976710656) (hn : s.n < 1000000) (h : PgIs p pd pf b s F w) :
    Calls Tryz.prog 68 #[.pointer (some ⟨p, 0, none⟩), .int .i64 x, .agg #[.int .i64 k, .int .i64 n, .string t]] w fun e w' => e = .returned (.tuple #[]) ∧ PgIs p pd pf b (keptS s x ⟨1, k, n, t⟩) F w' ∧ Kept F w w' := by
  have hA : Below w.heap.size w (w.alloc (.cells #[.int .i64 k, .int .i64 n, .string t] 23)) := (Below.refl _ _).alloc (Nat.le_refl _) _
  have hFl := h.lt
  have hbx := Has.made w 23 #[.int .i64 k, .int .i64 n, .string t]
  have hcl := tclone_any t hs (w.alloc (.cells #[.int .i64 k, .int .i64 n, .string t] 23))
  have HX := Lib.hid (And.intro h (And.intro hA hFl))
  have HBX := Lib.hid hbx
  clear h hA hFl hbx
  go_enter Tryz.func68, Tryz.ntmps68
  go_wp2_with fail
  refine hcl.mono ?_
  rintro e w1 ⟨rfl, hb⟩
  clear hcl
  have hb1 := HBX.out.below hb (by simp)
  have f2 := hb1.free 2
  have d2 := hb1.cell 2
  simp at d2
  have hi1 := hb1.inside
  have hb2 := hb1.put 2 (.string t)
  have hB1 : Below w.heap.size w w1 := HX.out.2.1.trans (hb.mono (by simp))
  have hk : Kept F w (w1.setCell ⟨w.heap.size, 2, none⟩ (.string t)) := (Kept.of_below hB1).setCell (.inr (Nat.le_refl _)) _ |>.mono (fun k hk => .inl hk)
  have hp2 : PgIs p pd pf b s F (w1.setCell ⟨w.heap.size, 2, none⟩ (.string t)) :=
    HX.out.1.kept (G := [w.heap.size]) ((Kept.of_below hB1).setCell (.inr (Nat.le_refl _)) _) (fun x hx hg => by have := HX.out.2.2 x hx; simp at hg; omega)
  have H2 := Lib.hid (And.intro hb2 (And.intro hk hp2))
  clear hb1 hb hb2 hB1 hk hp2 HX HBX
  go_wp2
  obtain ⟨hb2, hk, hp2⟩ := H2.out
  clear H2 f2 hi1 d2
  generalize w1.setCell ⟨w.heap.size, 2, none⟩ (.string t) = w2 at *
  have d0 := hb2.cell 0
  have d1 := hb2.cell 1
  have d2 := hb2.cell 2
  simp at d0 d1 d2
  obtain ⟨v, hp⟩ := hp2.cells
  obtain ⟨c0, c1, c6, c7, c8, c9⟩ := pg_cells hp
  have H2 := Lib.hid (And.intro hk hp2)
  clear hk hp2 hp hb2
  go_still_tail 7, (by kernel_rfl)
  change wpList _ _ _ _ _ w2.drew
  have hk2 : Kept F w w2.drew := H2.out.1.drew
  have hp2 : PgIs p pd pf b s F w2.drew := H2.out.2.kept (G := []) (Kept.refl [] w2).drew (by simp)
  refine wpList_put _ rfl _ _ _ rfl rfl hp2.here hn x rfl hx ⟨1, k, n, t⟩ rfl ?_
  intro w3 hh hk3
  obtain ⟨hp3, hk4⟩ := hp2.setHere hh hk3
  have H3 := Lib.hid (And.intro hp3 (hk2.trans hk4))
  clear hk2 hp2 hh hk3 hp3 hk4 H2 c0 c1 c6 c7 c8 c9 d0 d1 d2
  go_wp2
  go_end0
  exact ⟨rfl, H3.out⟩
end
end Go.Proofs.YtmcfldcpmjdfbaaGreatDoor

namespace Go.Proofs.YtmcfldcpmjdfbaaGreatDoor
open Go.RowKit Go.Sort

/-- What waits of one Give: its number, the Seqs behind sq, the pages. -/
def giv (t : Int) (sq : Nat) (xs : List Int) : List Due := xs.zipIdx.map fun u => (t, ((sq + u.2 + 1 : Nat) : Int), u.1)
theorem giv_snoc (t : Int) (sq : Nat) (xs : List Int) (x : Int) : giv t sq (xs ++ [x]) = giv t sq xs ++ [(t, ((sq + xs.length + 1 : Nat) : Int), x)] := by
  unfold giv
  rw [List.zipIdx_append]
  simp
theorem length_giv (t : Int) (sq : Nat) (xs : List Int) : (giv t sq xs).length = xs.length := by simp [giv]
theorem giv_one (t : Int) (sq : Nat) (x : Int) : giv t sq [x] = [(t, ((sq + 1 : Nat) : Int), x)] := by simp [giv]

def dueOf (thr : Int) (m : List Due) : List Due := m.filter fun d => decide (d.1 ≤ thr)
def lateOf (thr : Int) (m : List Due) : List Due := m.filter fun d => decide (thr < d.1)
def whats (m : List Due) : List Int := m.map fun d => d.2.2

theorem parts_of {thr : Int} {T s m : List Due} (h : (T ++ s).Perm m) (hT : ∀ d ∈ T, d.1 ≤ thr) (hs : ∀ d ∈ s, thr < d.1) : T.Perm (dueOf thr m) ∧ s.Perm (lateOf thr m) := by
  have h1 := h.filter (fun d => decide (d.1 ≤ thr))
  have h2 := h.filter (fun d => decide (thr < d.1))
  rw [List.filter_append] at h1 h2
  rw [List.filter_eq_self.2 (by intro d hd; simpa using hT d hd), List.filter_eq_nil_iff.2 (by intro d hd; have := hs d hd; simp; omega), List.append_nil] at h1
  rw [List.filter_eq_nil_iff.2 (by intro d hd; have := hT d hd; simp; omega), List.filter_eq_self.2 (by intro d hd; simpa using hs d hd), List.nil_append] at h2
  exact ⟨h1, h2⟩

section
variable {p : Nat} {w : World} {F : List Nat} {l k : List Int} {m : List Due}

set_option maxRecDepth 100000 in
set_option maxHeartbeats 1000000 in
theorem fgive_any {sq : Nat} {v : Value} {xs : List Int} (t : Int) (h : FreeIs p w F l sq m k) (hv : ReadsO F w v (xs.map (.int .i64))) (hl : xs.length + m.length ≤ 1000000) (hsq : xs.length + sq ≤ 1000000) :
    Calls Tryz.prog 42 #[.pointer (some ⟨p, 0, none⟩), .int .i64 t, v] w fun e w' => e = .returned (.tuple #[]) ∧ ∃ F', FreeIs p w' F' l ((sq + xs.length : Nat) : Int) (giv t sq xs ++ m) k ∧ Goes F w F' w' := by
  obtain ⟨A, c, rfl, hr⟩ := hv
  rw [List.length_map] at *
  obtain ⟨n, hn⟩ : ∃ n, xs.length = n := ⟨_, rfl⟩
  have HR := Lib.hid (show ReadsO F w (.slice A n c) (xs.map (.int .i64)) from ⟨A, c, by rw [List.length_map, hn], by rw [List.length_map]; exact hr⟩)
  have HN := Lib.hid (And.intro hn (And.intro hl hsq))
  have H := Lib.hid h
  rw [hn]
  have hnb : n ≤ 1000000 := by omega
  clear h hr hl hsq hn
  go_enter Tryz.func42, Tryz.ntmps42
  go_wp2_with fail
  go_loopg [12] n (fun g i wr => ∃ (j : Nat), i = .int .i64 j ∧ j + g = n ∧ ∃ G, FreeIs p wr G l ((sq + j : Nat) : Int) (giv t sq (xs.take j) ++ m) k ∧ Goes F w G wr)
  case atStart => exact ⟨0, rfl, by omega, F, by simpa [giv] using H.out, Goes.refl _ _⟩
  case round =>
    obtain ⟨j, rfl, hjg, G, hf, hgo⟩ := hrel
    by_cases hlt : j < n
    · have hlt' : j < xs.length := by rw [HN.out.1]; exact hlt
      have hro := HR.out.goes hgo
      obtain ⟨A', c', hA, hro⟩ := hro
      obtain ⟨b, off, hAb, hbl, hbG, hcell⟩ := hro (by rw [List.length_map]; omega)
      simp only [Value.slice.injEq] at hA
      obtain ⟨rfl, hA2, rfl⟩ := hA
      subst hAb
      have hck := hcell j (.int .i64 xs[j]) (by simp [hlt'])
      obtain ⟨S, F0, h0, hsub, hback⟩ := hf.waits
      have hlj : (giv t sq (xs.take j) ++ m).length < 1000000 := by
        have h1 := HN.out.2.1
        rw [List.length_append, length_giv]
        simp
        omega
      have hpu := lput_any t xs[j] h0 hlj (by have := HN.out.2.2; omega)
      have e1 : (xs.take (j + 1)) = xs.take j ++ [xs[j]] := by rw [List.take_succ_eq_append_getElem hlt']
      have e2 : giv t sq (xs.take (j + 1)) = giv t sq (xs.take j) ++ [(t, ((sq + j + 1 : Nat) : Int), xs[j])] := by
        rw [e1, giv_snoc]
        have : (xs.take j).length = j := by simp; omega
        rw [this]
      have HE := Lib.hid (And.intro e2 (And.intro hback hgo))
      generalize hx : xs[j] = x at *
      have k0 : (0 : Int) ≤ j := by omega
      have k1 : (j : Int) < n := by omega
      clear hgo hf h0 hsub hback e1 e2 hcell hbl hbG hA2 hro hx hlj
      obtain ⟨z, hz⟩ : ∃ z : Int, ((sq + j + 1 : Nat) : Int) = z := ⟨_, rfl⟩
      have HZ := Lib.hid hz
      rw [hz] at hpu
      clear hz
      go_wp2_with fail
      refine hpu.mono ?_
      rintro e w2 ⟨rfl, G', hp2, hg2⟩
      have H2 := Lib.hid (And.intro hp2 hg2)
      clear hp2 hg2 hpu
      go_wp2
      go_roundg (n - (j + 1))
      case measure => omega
      case rel =>
        obtain ⟨e2, hback, hgo⟩ := HE.out
        obtain ⟨F2, hf2, hg2⟩ := hback _ _ _ _ H2.out.1 H2.out.2
        refine ⟨j + 1, by go_num, by omega, F2, ?_, hgo.trans hg2⟩
        rw [e2, show ((sq + (j + 1) : Nat) : Int) = z from HZ.out]
        refine hf2.perm (List.Perm.refl _) ?_ (List.Perm.refl _)
        rw [← HZ.out, List.append_assoc]
        exact (List.perm_middle (l₁ := giv t sq (xs.take j)) (a := (t, ((sq + j + 1 : Nat) : Int), x)) (l₂ := m)).symm
    · obtain rfl : j = n := by omega
      have HP := Lib.hid (And.intro hf hgo)
      clear hf hgo
      go_wp2_with fail
      go_end0
      refine ⟨rfl, G, ?_, HP.out.2⟩
      have h1 := HP.out.1
      rwa [List.take_of_length_le (by rw [HN.out.1]; exact Nat.le_refl _)] at h1


/-- Pile.First at the pins. -/
theorem fpinned_any {sq : Int} (thr : Int) (h : FreeIs p w F l sq m k) (hk : (k = [] ∧ thr = 9223372036854775807) ∨ ∃ s, k.Perm (thr :: s) ∧ ∀ y ∈ s, thr ≤ y) :
    Calls Tryz.prog 88 #[.pointer (some ⟨p, 3, none⟩)] w fun e w' => w' = w ∧ (e = .returned (.tuple #[.int .i64 thr, .bool true]) ∨ (thr = 9223372036854775807 ∧ ∃ x : Int, e = .returned (.tuple #[.int .i64 x, .bool false]))) := by
  obtain ⟨S, F0, h0, _, _⟩ := h.pins
  rcases hk with ⟨rfl, ht⟩ | ⟨s, hp, hm⟩
  · refine (first_none h0).mono ?_
    rintro e w' ⟨rfl, rfl⟩
    exact ⟨rfl, .inr ⟨ht, _, rfl⟩⟩
  · refine (first_some h0 hp hm).mono ?_
    rintro e w' ⟨rfl, rfl⟩
    exact ⟨rfl, .inl rfl⟩

/-- Pile.Put at the free ones, of one in a row that was just made for it. -/
theorem fback1_any {sq : Int} (x : Int) (h : FreeIs p w F l sq m k) (hl : l.length < 1000000) :
    Calls Tryz.prog 59 #[.pointer (some ⟨p, 0, none⟩), .slice (some ⟨w.heap.size, 0, none⟩) 1 1] (w.alloc (.cells #[.int .i64 x] 3)) fun e w' => e = .returned (.tuple #[]) ∧ ∃ F', FreeIs p w' F' (x :: l) sq m k ∧ Goes F w F' w' := by
  have hlt := h.lt
  have hb0 : Below w.heap.size w (w.alloc (.cells #[.int .i64 x] 3)) := (Below.refl _ _).alloc (Nat.le_refl _) _
  have h1 := h.below hb0
  obtain ⟨S, F0, h0, hsub, hback⟩ := h1.free
  have hro : ReadsO F0 (w.alloc (.cells #[.int .i64 x] 3)) (.slice (some ⟨w.heap.size, 0, none⟩) 1 1) ([x].map (.int .i64)) :=
    ⟨some ⟨w.heap.size, 0, none⟩, 1, rfl, fun _ => ⟨w.heap.size, 0, rfl, by simp, fun hF => by have := hlt _ (hsub _ hF); omega, fun j u hu => by
      rw [Nat.zero_add, (Has.made w 3 #[.int .i64 x]).cell j]
      simpa using hu⟩⟩
  refine (put_any h0 hro (by simp; omega)).mono ?_
  rintro e w' ⟨rfl, F', hpi, hk⟩
  obtain ⟨F2, hf, hg⟩ := hback _ _ _ hpi hk
  exact ⟨rfl, F2, hf, Goes.trans ⟨Kept.of_below hb0, fun k hk => .inl hk⟩ hg⟩
end
end Go.Proofs.YtmcfldcpmjdfbaaGreatDoor
