/-
  Walks over the document's own Reader: fail, Var, Count, Text.
-/
import Derived.Test.YtpfifmjcmpankaaGreatMg8
import Derived.Test.YtpfifmjcmpankaaGreatMg3
import Derived.Deep.LoopGhost
namespace Go.Proofs.YtpfifmjcmpankaaGreat
open Go.RowKit Go.Lib

/-- The document's reader at b: what is left, its error. -/
def RRd (w : World) (b : Nat) (l : List UInt8) (n : Int) : Prop := ∃ s : ByteArray, s.data.toList = l ∧ s.size ≤ 9223372036854775807 ∧ Has w b 100 #[.string s, .int .i64 n]
theorem RRd.inside {w : World} {b : Nat} {l : List UInt8} {n : Int} (h : RRd w b l n) : b < w.heap.size := by
  obtain ⟨s, _, _, h⟩ := h
  exact h.inside
theorem RRd.below {w w' : World} {b B : Nat} {l : List UInt8} {n : Int} (h : RRd w b l n) (hb : Below B w w') (hg : b < B) : RRd w' b l n := by
  obtain ⟨s, h1, h2, h⟩ := h
  exact ⟨s, h1, h2, h.below hb hg⟩
theorem RRd.kept {F : List Nat} {w w' : World} {b : Nat} {l : List UInt8} {n : Int} (h : RRd w b l n) (k : Kept F w w') (hb : b ∉ F) : RRd w' b l n := by
  obtain ⟨s, h1, h2, h3⟩ := h
  exact ⟨s, h1, h2, h3.kept k hb⟩
/-- What a call comes to. -/
def RRdPost (w : World) (b : Nat) (v : Value) (l : List UInt8) (n : Int) (e : Ending) (w' : World) : Prop := e = .returned v ∧ RRd w' b l n ∧ Kept [b] w w'
theorem RRd.setRest {w : World} {b : Nat} {l : List UInt8} {n : Int} (h : RRd w b l n) (s : ByteArray) (hs : s.size ≤ 9223372036854775807) : RRd (w.setCell ⟨b, 0, none⟩ (.string s)) b s.data.toList n ∧ Kept [b] w (w.setCell ⟨b, 0, none⟩ (.string s)) := by
  obtain ⟨s0, _, _, h⟩ := h
  exact ⟨⟨s, rfl, hs, by simpa using h.put 0 (.string s)⟩, (Kept.refl _ _).setCell (p := ⟨b, 0, none⟩) (.inl (by simp)) _⟩
theorem RRd.setErr {w : World} {b : Nat} {l : List UInt8} {n : Int} (h : RRd w b l n) (n' : Int) : RRd (w.setCell ⟨b, 1, none⟩ (.int .i64 n')) b l n' ∧ Kept [b] w (w.setCell ⟨b, 1, none⟩ (.int .i64 n')) := by
  obtain ⟨s0, h1, h2, h⟩ := h
  exact ⟨⟨s0, h1, h2, by simpa using h.put 1 (.int .i64 n')⟩, (Kept.refl _ _).setCell (p := ⟨b, 1, none⟩) (.inl (by simp)) _⟩

set_option maxRecDepth 100000 in
theorem rrfail_any (b : Nat) (n : Int) (w : World) (hc : w.cell? ⟨b, 1, none⟩ = some (.int .i64 0)) (hf : w.frozen? ⟨b, 1, none⟩ = false) :
    Calls Tryz.prog 135 #[.pointer (some ⟨b, 0, none⟩), .int .i64 n] w fun e w' => e = .returned (.tuple #[]) ∧ w' = w.setCell ⟨b, 1, none⟩ (.int .i64 n) := by
  go_enter Tryz.func135, Tryz.ntmps135
  go_wp2
  go_end0
  exact ⟨rfl, rfl⟩

set_option maxRecDepth 100000 in
set_option maxHeartbeats 1000000 in
theorem rrvar_err (b : Nat) (l : List UInt8) (n : Int) (w : World) (h : RRd w b l n) (hn : n ≠ 0) :
    Calls Tryz.prog 65 #[.pointer (some ⟨b, 0, none⟩)] w (RRdPost w b (.int .i64 0) l n) := by
  have h' := h
  obtain ⟨s, hl, hs, hb⟩ := h
  have c1 := hb.cell 1
  simp at c1
  have hb2 : (n != 0) = true := by simpa using hn
  go_enter Tryz.func65, Tryz.ntmps65
  go_wp2
  go_ret
  exact ⟨rfl, h', Kept.refl _ _⟩

set_option maxRecDepth 100000 in
set_option maxHeartbeats 2000000 in
theorem rrvar_any (b : Nat) (l : List UInt8) (w : World) (h : RRd w b l 0) :
    Calls Tryz.prog 65 #[.pointer (some ⟨b, 0, none⟩)] w (RRdPost w b (.int .i64 (rvar l).1) (rvar l).2.1 (rvar l).2.2) := by
  have h' := h
  obtain ⟨s, hl, hs, hb⟩ := h
  have c0 := hb.cell 0
  have c1 := hb.cell 1
  simp at c0 c1
  subst hl
  have f0 := hb.free 0
  have f1 := hb.free 1
  have H := Lib.hid h'
  clear hb h'
  go_enter Tryz.func65, Tryz.ntmps65
  go_wp2_with fail
  go_loop [3, 4, 5] (fun u p i => ∃ (k X P : Nat), k ≤ s.size ∧ k ≤ 9 ∧ X < 2 ^ (7 * k) ∧ P = 2 ^ (7 * k) ∧ i = .int .i64 k ∧ u = .int .u64 X ∧ p = .int .u64 P ∧ gscan 0 0 s.data.toList = gscan k X (s.data.toList.drop k)) (fun _ _ i => s.size - (RowKit.intOf i).toNat)
  case atStart => exact ⟨0, 0, 1, by omega, by omega, by decide, by decide, rfl, rfl, rfl, rfl⟩
  case round =>
    obtain ⟨k, X, P, hk, hk9, hX, hP, rfl, rfl, rfl, hd⟩ := hrel
    have HX := Lib.hid (And.intro hX (And.intro hP hd))
    by_cases hlt : k < s.size
    · have hcb := s[k].toNat_lt
      have hkI : (k : Int) < s.size := by omega
      have hk0 : (0 : Int) ≤ k := by omega
      have hov0 := fun h9 h1 => gs_over (s := s) (k := k) (X := X) hlt h9 h1
      have hze0 := fun h1 h2 => gs_zero (s := s) (k := k) (X := X) hlt h1 h2
      have hla0 := fun h1 h2 h3 => gs_last (s := s) (k := k) (X := X) hlt h1 h2 h3
      have hmo0 := fun h1 h2 => gs_more (s := s) (k := k) (X := X) hlt h1 h2
      have hacc := fun (c : Nat) => acc_step (X := X) (k := k) (c := c) hX
      rw [← hP] at hla0 hmo0 hacc hX
      have hp7 : (2 : Nat) ^ (7 * (k + 1)) = P * 128 := by rw [hP, show 7 * (k + 1) = 7 * k + 7 by omega, Nat.pow_add]
      have hP8 : k ≤ 8 → P ≤ 72057594037927936 := fun h => by rw [hP]; exact Nat.le_trans (Nat.pow_le_pow_right (by decide) (show 7 * k ≤ 56 by omega)) (by decide)
      have hP9 : k = 9 → P = 9223372036854775808 := fun h => by rw [hP, h]
      generalize hc : s[k].toNat = c at *
      by_cases hov : k = 9 ∧ 1 < c
      · have hv : rvar s.data.toList = (0, s.data.toList, 4) := by unfold rvar; rw [hd, hov0 (by omega) (by omega)]; rfl
        have h9 : ((k : Int) == 9) = true := by rw [beq_iff_eq]; omega
        have h1 : (1 : Int) < c := by omega
        rw [hv]
        clear hX hP hd hov0 hze0 hla0 hmo0 hacc hp7 hP8 hP9 hv hov
        go_wp2_with (go_at_call 135; refine (rrfail_any _ _ _ c1 f1).mono ?_; rintro e w' ⟨rfl, rfl⟩)
        go_ret
        exact ⟨rfl, (H.out.setErr 4).1, (H.out.setErr 4).2⟩
      · have hnov : (k : Int) = 9 → ¬ (1 : Int) < c := fun h h2 => hov ⟨by omega, by omega⟩
        have hY1 : c % 128 * P ≤ 127 * P := Nat.mul_le_mul_right _ (by omega)
        have hY9 : k = 9 → c % 128 * P ≤ 1 * P := fun h => Nat.mul_le_mul_right _ (by omega)
        obtain ⟨Y, hY⟩ : ∃ Y, c % 128 * P = Y := ⟨_, rfl⟩
        rw [hY] at hY1 hY9
        have hZ : X + Y < 18446744073709551616 := by
          rcases Nat.lt_or_ge k 9 with h | h
          · have := hP8 (by omega); omega
          · have := hP9 (by omega); have := hY9 (by omega); omega
        have r1 : IntKind.u64.wrap ((c : Int) % 128 * (P : Int)) = (Y : Int) := by
          have : ((c : Int) % 128 * (P : Int)) = (Y : Int) := by rw [← hY]; simp
          rw [this, IntKind.wrap_u64]
          omega
        obtain ⟨Z, hZd⟩ : ∃ Z, X + Y = Z := ⟨_, rfl⟩
        have r2 : IntKind.u64.wrap ((X : Int) + (Y : Int)) = (Z : Int) := by rw [IntKind.wrap_u64]; omega
        have hZ64 : Z < 18446744073709551616 := by omega
        by_cases hmore : 128 ≤ c
        · have hk8 : k ≤ 8 := by omega
          have hPb := hP8 hk8
          have r3 : IntKind.u64.wrap ((P : Int) * 128) = ((P * 128 : Nat) : Int) := by rw [IntKind.wrap_u64]; omega
          have hne9 : ((k : Int) == 9) = false := by rw [beq_eq_false_iff_ne]; omega
          have h128 : (128 : Int) ≤ c := by omega
          have hrel : Hid (k + 1 ≤ s.size ∧ k + 1 ≤ 9 ∧ Z < 2 ^ (7 * (k + 1)) ∧ P * 128 = 2 ^ (7 * (k + 1)) ∧ gscan 0 0 s.data.toList = gscan (k + 1) Z (s.data.toList.drop (k + 1))) := Lib.hid ⟨by omega, by omega, by rw [hp7]; have := hacc c; rw [hY, hZd, hp7] at this; exact this, hp7.symm, by rw [hd, hmo0 (by omega) (by omega), hY, hZd]⟩
          obtain ⟨Q, hQ⟩ : ∃ Q, P * 128 = Q := ⟨_, rfl⟩
          rw [hQ] at r3 hrel
          clear hX hP hd hov0 hze0 hla0 hmo0 hacc hp7 hP8 hP9 hov hnov hY1 hY9 hY hZ hZd hQ
          go_wp2_with fail
          exact ⟨⟨k + 1, Z, Q, hrel.out.1, hrel.out.2.1, hrel.out.2.2.1, hrel.out.2.2.2.1, by go_num, rfl, rfl, hrel.out.2.2.2.2⟩, by simp [RowKit.intOf]; omega⟩
        · have hl128 : ¬ (128 : Int) ≤ c := by omega
          by_cases hzz : c = 0 ∧ 0 < k
          · have hv : rvar s.data.toList = (0, s.data.toList, 4) := by unfold rvar; rw [hd, hze0 hzz.1 hzz.2]; rfl
            have hk1 : (0 : Int) < k := by omega
            have hk2 : 0 < k := hzz.2
            have hc00 : ((c : Int) == 0) = true := by rw [beq_iff_eq]; omega
            have hc1n : ¬ (1 : Int) < c := by omega
            rw [hv]
            clear hX hP hd hov0 hze0 hla0 hmo0 hacc hp7 hP8 hP9 hov hnov hY1 hY9 hY hZ hZd hv hzz
            go_wp2_with (go_at_call 135; refine (rrfail_any _ _ _ c1 f1).mono ?_; rintro e w' ⟨rfl, rfl⟩)
            all_goals
              go_ret
              exact ⟨rfl, (H.out.setErr 4).1, (H.out.setErr 4).2⟩
          · have hcm : c % 128 = c := Nat.mod_eq_of_lt (by omega)
            rw [hcm] at hY
            have hv : rvar s.data.toList = (unzig Z, s.data.toList.drop (k + 1), 0) := by unfold rvar; rw [hd, hla0 hov (by omega) hzz, hY, hZd]; rfl
            have hzz' : (0 : Int) < k → ((c : Int) == 0) = false := fun h => by rw [beq_eq_false_iff_ne]; omega
            have hex : (s.extract (k + 1) s.size).data.toList = s.data.toList.drop (k + 1) := by
              rw [ByteArray.data_extract, Array.toList_extract]
              simp
              exact List.take_of_length_le (by simp)
            have hsr := H.out.setRest (s.extract (k + 1) s.size) (by rw [ByteArray.size_extract]; omega)
            rw [hex] at hsr
            rw [hv]
            have HS := Lib.hid hsr
            have hkI2 : (k : Int) + 1 ≤ s.size := by omega
            have huz : unzig Z = if Z % 2 = 1 then -((Z / 2 : Nat) : Int) - 1 else ((Z / 2 : Nat) : Int) := rfl
            have HU := Lib.hid huz
            clear hX hP hd hov0 hze0 hla0 hmo0 hacc hp7 hP8 hP9 hov hY1 hY9 hY hZ hZd hv hex hsr hcm huz
            by_cases hk0' : k = 0
            · have hn9 : ((k : Int) == 9) = false := by rw [beq_eq_false_iff_ne]; omega
              have hkn : ¬ (0 : Int) < k := by omega
              have hkn2 : ¬ 0 < k := by omega
              have hkH := Lib.hid hk0'
              clear hk0' hzz hzz' hnov
              rcases Nat.mod_two_eq_zero_or_one Z with hz2 | hz2
              · have hzb : ((Z : Int) % 2 == 1) = false := by rw [beq_eq_false_iff_ne]; omega
                have hu : unzig Z = ((Z / 2 : Nat) : Int) := by rw [HU.out, if_neg (by omega)]
                have HV := Lib.hid hu
                clear hu hz2
                go_wp2_with fail
                go_ret
                refine ⟨ret_i64 ?_, HS.out.1, HS.out.2⟩
                rw [HV.out]
                omega
              · have hzb : ((Z : Int) % 2 == 1) = true := by rw [beq_iff_eq]; omega
                have hu : unzig Z = -((Z / 2 : Nat) : Int) - 1 := by rw [HU.out, if_pos hz2]
                have HV := Lib.hid hu
                clear hu hz2
                go_wp2_with fail
                go_ret
                refine ⟨ret_i64 ?_, HS.out.1, HS.out.2⟩
                rw [HV.out]
                omega
            · have hkp : (0 : Int) < k := by omega
              have hkp2 : 0 < k := by omega
              have hcz := hzz' hkp
              by_cases h9 : k = 9
              · have h9b : ((k : Int) == 9) = true := by rw [beq_iff_eq]; omega
                have hn1 := hnov (by omega)
                clear hk0' hzz hzz' hnov h9
                rcases Nat.mod_two_eq_zero_or_one Z with hz2 | hz2
                · have hzb : ((Z : Int) % 2 == 1) = false := by rw [beq_eq_false_iff_ne]; omega
                  have hu : unzig Z = ((Z / 2 : Nat) : Int) := by rw [HU.out, if_neg (by omega)]
                  have HV := Lib.hid hu
                  clear hu hz2
                  go_wp2_with fail
                  go_ret
                  refine ⟨ret_i64 ?_, HS.out.1, HS.out.2⟩
                  rw [HV.out]
                  omega
                · have hzb : ((Z : Int) % 2 == 1) = true := by rw [beq_iff_eq]; omega
                  have hu : unzig Z = -((Z / 2 : Nat) : Int) - 1 := by rw [HU.out, if_pos hz2]
                  have HV := Lib.hid hu
                  clear hu hz2
                  go_wp2_with fail
                  go_ret
                  refine ⟨ret_i64 ?_, HS.out.1, HS.out.2⟩
                  rw [HV.out]
                  omega
              · have hn9 : ((k : Int) == 9) = false := by rw [beq_eq_false_iff_ne]; omega
                clear hk0' hzz hzz' hnov h9
                rcases Nat.mod_two_eq_zero_or_one Z with hz2 | hz2
                · have hzb : ((Z : Int) % 2 == 1) = false := by rw [beq_eq_false_iff_ne]; omega
                  have hu : unzig Z = ((Z / 2 : Nat) : Int) := by rw [HU.out, if_neg (by omega)]
                  have HV := Lib.hid hu
                  clear hu hz2
                  go_wp2_with fail
                  go_ret
                  refine ⟨ret_i64 ?_, HS.out.1, HS.out.2⟩
                  rw [HV.out]
                  omega
                · have hzb : ((Z : Int) % 2 == 1) = true := by rw [beq_iff_eq]; omega
                  have hu : unzig Z = -((Z / 2 : Nat) : Int) - 1 := by rw [HU.out, if_pos hz2]
                  have HV := Lib.hid hu
                  clear hu hz2
                  go_wp2_with fail
                  go_ret
                  refine ⟨ret_i64 ?_, HS.out.1, HS.out.2⟩
                  rw [HV.out]
                  omega
    · have hgs := gs_end (k := k) (X := X) hlt
      have hv : rvar s.data.toList = (0, s.data.toList, 5) := by unfold rvar; rw [hd, hgs]; rfl
      have hlt' : ¬ (k : Int) < s.size := by omega
      rw [hv]
      clear hX hP hd hgs hv
      go_wp2_with (go_at_call 135; refine (rrfail_any _ _ _ c1 f1).mono ?_; rintro e w' ⟨rfl, rfl⟩)
      go_ret
      exact ⟨rfl, (H.out.setErr 5).1, (H.out.setErr 5).2⟩

theorem RRd.cells {w : World} {b : Nat} {l : List UInt8} {n : Int} (h : RRd w b l n) : ∃ s : ByteArray, s.data.toList = l ∧ s.size = l.length ∧ s.size ≤ 9223372036854775807 ∧ w.cell? ⟨b, 0, none⟩ = some (.string s) ∧ w.cell? ⟨b, 1, none⟩ = some (.int .i64 n) ∧ w.frozen? ⟨b, 0, none⟩ = false ∧ w.frozen? ⟨b, 1, none⟩ = false := by
  obtain ⟨s, hl, hs, hb⟩ := h
  have c0 := hb.cell 0
  have c1 := hb.cell 1
  simp at c0 c1
  exact ⟨s, hl, by rw [← hl]; simp, hs, c0, c1, hb.free 0, hb.free 1⟩
/-- Var, whatever the error is. -/
def rvarE (l : List UInt8) (n : Int) : Int × List UInt8 × Int := if n ≠ 0 then (0, l, n) else rvar l
theorem rrvar_all (b : Nat) (l : List UInt8) (n : Int) (w : World) (h : RRd w b l n) :
    Calls Tryz.prog 65 #[.pointer (some ⟨b, 0, none⟩)] w (RRdPost w b (.int .i64 (rvarE l n).1) (rvarE l n).2.1 (rvarE l n).2.2) := by
  unfold rvarE
  by_cases hn : n = 0
  · subst hn
    rw [if_neg (by simp)]
    exact rrvar_any b l w h
  · rw [if_pos hn]
    exact rrvar_err b l n w h hn

set_option maxRecDepth 100000 in
set_option maxHeartbeats 1000000 in
theorem rrcount_any (b : Nat) (l : List UInt8) (most : Int) (w : World) (h : RRd w b l 0) :
    Calls Tryz.prog 134 #[.pointer (some ⟨b, 0, none⟩), .int .i64 most] w (RRdPost w b (.int .i64 (rcount most l).1) (rcount most l).2.1 (rcount most l).2.2) := by
  have hr := rrvar_any b l w h
  rcases hv : rvar l with ⟨x, r, n⟩
  rw [hv] at hr
  simp only at hr
  unfold RRdPost at hr
  by_cases hn : n = 0
  · subst hn
    have hc : rcount most l = if x < 0 then (0, r, 4) else if most < x then (0, r, 2) else (x, r, 0) := by unfold rcount; rw [hv]; simp
    by_cases hx : x < 0
    · rw [hc, if_pos hx]
      clear hc hv
      go_enter Tryz.func134, Tryz.ntmps134
      go_wp2_with fail
      refine hr.mono ?_
      rintro e w1 ⟨rfl, hr1, hk1⟩
      obtain ⟨s, _, _, _, c0, c1, f0, f1⟩ := hr1.cells
      have H := Lib.hid (And.intro hr1 hk1)
      clear hr hr1 hk1
      go_wp2_with (go_at_call 135; refine (rrfail_any _ _ _ c1 f1).mono ?_; rintro e w' ⟨rfl, rfl⟩)
      go_ret
      exact ⟨rfl, (H.out.1.setErr 4).1, H.out.2.trans (H.out.1.setErr 4).2⟩
    · by_cases hm : most < x
      · rw [hc, if_neg hx, if_pos hm]
        clear hc hv
        go_enter Tryz.func134, Tryz.ntmps134
        go_wp2_with fail
        refine hr.mono ?_
        rintro e w1 ⟨rfl, hr1, hk1⟩
        obtain ⟨s, _, _, _, c0, c1, f0, f1⟩ := hr1.cells
        have H := Lib.hid (And.intro hr1 hk1)
        clear hr hr1 hk1
        go_wp2_with (go_at_call 135; refine (rrfail_any _ _ _ c1 f1).mono ?_; rintro e w' ⟨rfl, rfl⟩)
        go_ret
        exact ⟨rfl, (H.out.1.setErr 2).1, H.out.2.trans (H.out.1.setErr 2).2⟩
      · rw [hc, if_neg hx, if_neg hm]
        clear hc hv
        go_enter Tryz.func134, Tryz.ntmps134
        go_wp2_with fail
        refine hr.mono ?_
        rintro e w1 ⟨rfl, hr1, hk1⟩
        obtain ⟨s, _, _, _, c0, c1, f0, f1⟩ := hr1.cells
        have H := Lib.hid (And.intro hr1 hk1)
        clear hr hr1 hk1
        go_wp2_with fail
        go_ret
        exact ⟨rfl, H.out⟩
  · have hc : rcount most l = (0, r, n) := by unfold rcount; rw [hv]; simp [hn]
    have hb2 : (n != 0) = true := by simpa using hn
    rw [hc]
    clear hc hv
    go_enter Tryz.func134, Tryz.ntmps134
    go_wp2_with fail
    refine hr.mono ?_
    rintro e w1 ⟨rfl, hr1, hk1⟩
    obtain ⟨s, _, _, _, c0, c1, f0, f1⟩ := hr1.cells
    have H := Lib.hid (And.intro hr1 hk1)
    clear hr hr1 hk1
    go_wp2_with fail
    go_ret
    exact ⟨rfl, H.out⟩

set_option maxRecDepth 100000 in
set_option maxHeartbeats 1000000 in
theorem rrtext_any (b : Nat) (l : List UInt8) (most : Int) (w : World) (h : RRd w b l 0) :
    Calls Tryz.prog 63 #[.pointer (some ⟨b, 0, none⟩), .int .i64 most] w (RRdPost w b (.string ⟨(rtext most l).1.toArray⟩) (rtext most l).2.1 (rtext most l).2.2) := by
  have hr := rrcount_any b l most w h
  have hnn := rcount_nonneg most l
  rcases hv : rcount most l with ⟨x, r, n⟩
  rw [hv] at hr hnn
  simp only at hr hnn
  unfold RRdPost at hr
  by_cases hn : n = 0
  · subst hn
    obtain ⟨k, rfl⟩ : ∃ k : Nat, x = k := ⟨x.toNat, by omega⟩
    have hc : rtext most l = if (r.length : Int) < (k : Int) then ([], r, 5) else (r.take k, r.drop k, 0) := by unfold rtext; rw [hv]; simp
    by_cases hx : r.length < k
    · rw [hc, if_pos (by omega)]
      clear hc hv
      go_enter Tryz.func63, Tryz.ntmps63
      go_wp2_with fail
      refine hr.mono ?_
      rintro e w1 ⟨rfl, hr1, hk1⟩
      obtain ⟨s, _, hsl, _, c0, c1, f0, f1⟩ := hr1.cells
      have H := Lib.hid (And.intro hr1 hk1)
      have hlt : (s.size : Int) < k := by omega
      clear hr hr1 hk1
      go_wp2_with (go_at_call 135; refine (rrfail_any _ _ _ c1 f1).mono ?_; rintro e w' ⟨rfl, rfl⟩)
      go_ret
      exact ⟨rfl, (H.out.1.setErr 5).1, H.out.2.trans (H.out.1.setErr 5).2⟩
    · rw [hc, if_neg (by omega)]
      clear hc hv
      go_enter Tryz.func63, Tryz.ntmps63
      go_wp2_with fail
      refine hr.mono ?_
      rintro e w1 ⟨rfl, hr1, hk1⟩
      obtain ⟨s, hsd, hsl, hs63, c0, c1, f0, f1⟩ := hr1.cells
      have hlt : ¬ (s.size : Int) < k := by omega
      have hks : (k : Int) ≤ s.size := by omega
      have hks2 : k ≤ s.size := by omega
      have hsr := hr1.setRest (s.extract k s.size) (by rw [ByteArray.size_extract]; omega)
      have e1 : (s.extract k s.size).data.toList = r.drop k := by rw [← hsd]; simp; exact List.take_of_length_le (by simp)
      have e2 : (⟨(r.take k).toArray⟩ : ByteArray) = s.extract 0 k := by
        apply ByteArray.ext
        apply Array.ext'
        rw [← hsd]
        simp
      rw [e1] at hsr
      have HE := Lib.hid e2
      have H := Lib.hid (And.intro hsr.1 (hk1.trans hsr.2))
      clear hr hr1 hk1 hsr e1 e2 hsd hsl
      go_wp2_with fail
      go_ret
      exact ⟨by rw [HE.out]; rfl, H.out⟩
  · have hc : rtext most l = ([], r, n) := by unfold rtext; rw [hv]; simp [hn]
    have hb2 : (n != 0) = true := by simpa using hn
    rw [hc]
    clear hc hv
    go_enter Tryz.func63, Tryz.ntmps63
    go_wp2_with fail
    refine hr.mono ?_
    rintro e w1 ⟨rfl, hr1, hk1⟩
    obtain ⟨s, _, _, _, c0, c1, f0, f1⟩ := hr1.cells
    have H := Lib.hid (And.intro hr1 hk1)
    clear hr hr1 hk1
    go_wp2_with fail
    go_ret
    exact ⟨rfl, H.out⟩
end Go.Proofs.YtpfifmjcmpankaaGreat
