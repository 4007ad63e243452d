/-
  Walks over package num: the zig-zag, and one number's groups.
-/
import Derived.Test.YtpfifmjcmpankaaGreatProg
import Derived.Test.YtpfifmjcmpankaaGreatMg5
import Derived.Test.YtpfifmjcmpankaaGreatMg1
namespace Go.Proofs.YtpfifmjcmpankaaGreat
open Go.RowKit Go.Lib

set_option maxHeartbeats 400000 in
theorem uns_any (v : Int) (h0 : -9223372036854775808 ≤ v) (h1 : v ≤ 9223372036854775807) (w : World) : Calls Tryz.prog 164 #[.int .i64 v] w fun e w' => e = .returned (.int .u64 (zigzag v)) ∧ w = w' := by
  have hz := fun h => zigzag_neg (x := v) h0 h
  have hn := fun h => zigzag_nonneg (x := v) h
  have Hz := Lib.hid hz
  have Hn := Lib.hid hn
  clear hz hn
  go_enter Tryz.func164, Tryz.ntmps164
  go_wp2
  · go_ret
    exact ⟨ret_u64 (Hz.out (by assumption)), rfl⟩
  · go_ret
    exact ⟨ret_u64 (Hn.out (by assumption)).symm, rfl⟩

def unzig (u : Nat) : Int := if u % 2 = 1 then -((u / 2 : Nat) : Int) - 1 else ((u / 2 : Nat) : Int)

set_option maxHeartbeats 400000 in
theorem signed_any (u : Nat) (h1 : u < 18446744073709551616) (w : World) : Calls Tryz.prog 161 #[.int .u64 u] w fun e w' => e = .returned (.int .i64 (unzig u)) ∧ w = w' := by
  have e1 := u64_and1 (u : Int) (by omega) (by omega)
  have e2 := i64_not (u / 2) (by omega)
  have E1 := Lib.hid e1
  have E2 := Lib.hid e2
  clear e1 e2
  go_enter Tryz.func161, Tryz.ntmps161
  go_wp2
  · go_ret
    have hb : (bits BinOp.and IntKind.u64 (u : Int) 1 == 1) = true := by assumption
    rw [E1.out] at hb
    have hb' := WalkArith.int_eq hb
    refine ⟨ret_i64 ?_, rfl⟩
    have e3 : (u : Int) / 2 = ((u / 2 : Nat) : Int) := by omega
    unfold unzig
    rw [if_pos (by omega), e3, E2.out]
  · go_ret
    have hb : (bits BinOp.and IntKind.u64 (u : Int) 1 == 1) = false := by assumption
    rw [E1.out] at hb
    have hb' := WalkArith.int_ne hb
    refine ⟨ret_i64 ?_, rfl⟩
    unfold unzig
    rw [if_neg (by omega)]
    omega

set_option maxRecDepth 100000 in
set_option maxHeartbeats 400000 in
theorem groups_any (s : ByteArray) (hs : s.size ≤ 9223372036854775807) (w : World) : Calls Tryz.prog 160 #[.string s] w fun e w' => e = .returned (.tuple #[.int .u64 (gscan 0 0 s.data.toList).1, .int .i64 (gscan 0 0 s.data.toList).2.1, .int .i64 (gscan 0 0 s.data.toList).2.2]) ∧ w = w' := by
  go_enter Tryz.func160, Tryz.ntmps160
  go_wp2
  go_loop [5, 6] (fun u i => ∃ (k X : Nat), k ≤ s.size ∧ k ≤ 9 ∧ X < 2 ^ (7 * k) ∧ i = .int .i64 k ∧ u = .int .u64 X ∧ gscan 0 0 s.data.toList = gscan k X (s.data.toList.drop k)) (fun _ i => s.size - (intOf i).toNat)
  case atStart => exact ⟨0, 0, by omega, by omega, by decide, rfl, rfl, rfl⟩
  case round =>
    obtain ⟨k, X, hk, hk9, hX, rfl, rfl, hd⟩ := hrel
    have HX := Lib.hid hX
    have HD := Lib.hid hd
    clear hX hd
    by_cases hlt : k < s.size
    · have hb := s[k].toNat_lt
      go_wp2
      case' roundEnd =>
        have h9 : ¬ (k : Int) = 9 := by assumption
        have h1 : 128 ≤ (s[k].toNat : Int) := by assumption
        rw [or_step X k _ HX.out hk9 hb (by omega)]
        exact ⟨⟨k + 1, _, by omega, by omega, acc_step HX.out, by go_num, rfl, by rw [HD.out, gs_more hlt (by omega) (by omega)]⟩, by simp [intOf]; omega⟩
      · have e9 : (k : Int) = 9 := by assumption
        have h1 : 1 < (s[k].toNat : Int) := by assumption
        go_ret3
        exact ⟨by rw [HD.out, gs_over hlt e9 h1]; rfl, rfl⟩
      · have e9 : (k : Int) = 9 := by assumption
        have h1 : s[k].toNat = 0 := by assumption
        go_ret3
        exact ⟨by rw [HD.out, gs_zero hlt h1 (by omega)]; rfl, rfl⟩
      · have e9 : (k : Int) = 9 := by assumption
        have h1 : (s[k].toNat : Int) ≤ 1 := by assumption
        have h0 : ¬ s[k].toNat = 0 := by assumption
        obtain rfl : k = 9 := by omega
        rw [or_step9 X _ HX.out (by omega)]
        go_ret3
        exact ⟨by rw [HD.out, gs_last hlt (by omega) (by omega) (by omega)]; rfl, rfl⟩
      · have h1 : s[k].toNat = 0 := by assumption
        have h2 : 0 < k := by assumption
        go_ret3
        exact ⟨by rw [HD.out, gs_zero hlt h1 h2]; rfl, rfl⟩
      · have h9 : ¬ (k : Int) = 9 := by assumption
        have h1 : s[k].toNat = 0 := by assumption
        have h2 : ¬ 0 < k := by assumption
        have e0 := or_step X k 0 HX.out hk9 (by decide) (by omega)
        rw [show ((0 : Nat) : Int) = 0 from rfl] at e0
        rw [e0]
        go_ret3
        exact ⟨by rw [HD.out, gs_last hlt (by omega) (by omega) (by omega), h1]; rfl, rfl⟩
      · have h9 : ¬ (k : Int) = 9 := by assumption
        have h1 : (s[k].toNat : Int) < 128 := by assumption
        have h2 : ¬ s[k].toNat = 0 := by assumption
        rw [or_step X k _ HX.out hk9 hb (by omega)]
        go_ret3
        exact ⟨by rw [HD.out, gs_last hlt (by omega) (by omega) (by omega), Nat.mod_eq_of_lt (by omega)]; rfl, rfl⟩
    · go_wp2
      go_ret3
      exact ⟨by rw [HD.out, gs_end hlt]; rfl, rfl⟩
end Go.Proofs.YtpfifmjcmpankaaGreat
