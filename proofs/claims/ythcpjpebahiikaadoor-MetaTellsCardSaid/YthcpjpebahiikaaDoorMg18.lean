/-
  Walks over the document's own answers to chapter 1: the check sum.
-/
import Derived.Test.YthcpjpebahiikaaDoorMg9
namespace Go.Proofs.YthcpjpebahiikaaDoor
open Go.RowKit Go.Lib

theorem i64_xor_nat (a b : Nat) (ha : a < 4294967296) (hb : b < 4294967296) : bits .xor .i64 (a : Int) (b : Int) = ((a ^^^ b : Nat) : Int) := by
  have hx := xor_lt32 ha hb
  have h1 : (BitVec.ofInt 64 (a : Int)).toNat = a := by
    rw [BitVec.ofInt_natCast, BitVec.toNat_ofNat]; exact Nat.mod_eq_of_lt (by omega)
  have h2 : (BitVec.ofInt 64 (b : Int)).toNat = b := by
    rw [BitVec.ofInt_natCast, BitVec.toNat_ofNat]; exact Nat.mod_eq_of_lt (by omega)
  show IntKind.i64.wrap ((BitVec.ofInt 64 (a : Int) ^^^ BitVec.ofInt 64 (b : Int)).toNat : Int) = _
  rw [BitVec.toNat_xor, h1, h2, IntKind.wrap_i64]
  omega

set_option maxRecDepth 1000000 in
set_option maxHeartbeats 800000 in
theorem refCrc_any (s : ByteArray) (w : World) (hs : s.size ≤ 9223372036854775806) :
    Calls Tryd.prog 41 #[.string s] w fun e w' => e = .returned (.int .i64 (crcB s.data.toList)) ∧ w = w' := by
  go_enter Tryd.func41, Tryd.ntmps41
  go_wp2
  go_loop [3, 4] (fun x i => ∃ j : Nat, j ≤ s.size ∧ i = .int .i64 j ∧ x = .int .i64 (crcFrom 4294967295 (s.data.toList.take j))) (fun _ i => s.size - (intOf i).toNat)
  case atStart => exact ⟨0, Nat.zero_le _, rfl, rfl⟩
  case round =>
    obtain ⟨j, hj, rfl, rfl⟩ := hrel
    have hlt := crcFrom_lt (s.data.toList.take j) 4294967295 (by decide)
    by_cases hjs : j < s.size
    · have hc := s[j].toNat_lt
      have HT : Hid (steps 8 (crcFrom 4294967295 (s.data.toList.take j) ^^^ s[j].toNat) = crcFrom 4294967295 (s.data.toList.take (j + 1))) := by show _ = _; rw [take_bytes s j hjs, crcFrom_append]; rfl
      have hx := i64_xor_nat _ s[j].toNat hlt (by omega)
      have hxl : crcFrom 4294967295 (s.data.toList.take j) ^^^ s[j].toNat < 4294967296 := xor_lt32 hlt (by omega)
      generalize crcFrom 4294967295 (s.data.toList.take j) = y at *
      have HX := Lib.hid hx
      clear hx
      go_wp2_with fail
      rw [HX.out]
      generalize y ^^^ s[j].toNat = z at *
      go_loop [3, 5] (fun x i => ∃ k : Nat, k ≤ 8 ∧ i = .int .i64 k ∧ x = .int .i64 (steps k z)) (fun _ i => 8 - (intOf i).toNat)
      case atStart => exact ⟨0, Nat.zero_le _, rfl, rfl⟩
      case round =>
        obtain ⟨k, hk, rfl, rfl⟩ := hrel
        have hl2 := steps_lt k z hxl
        have hss := steps_succ k z
        have HY : Hid (k = 8 → steps k z = crcFrom 4294967295 (s.data.toList.take (j + 1))) := by show _ → _; rintro rfl; exact HT.out
        generalize steps k z = t at *
        by_cases hk8 : k < 8
        · by_cases hp : t % 2 = 1
          · have h1 : step1 t = t / 2 ^^^ 3988292384 := by unfold step1; rw [if_pos hp]
            have hx2 := i64_xor_nat (t / 2) 3988292384 (by omega) (by decide)
            rw [← h1, ← hss] at hx2
            have HX2 := Lib.hid hx2
            clear hx2 h1 hss
            have hte : ((t : Int) % 2 == 1) = true := by rw [show (t : Int) % 2 = 1 by omega]; rfl
            go_wp2_with fail
            have e2 : (t : Int) / 2 = ((t / 2 : Nat) : Int) := by omega
            have e3 : bits .xor .i64 ((t : Int) / 2) 3988292384 = ((steps (k + 1) z : Nat) : Int) := by rw [e2]; exact HX2.out
            exact ⟨⟨k + 1, by omega, by go_num, by rw [e3]⟩, by simp [intOf]; omega⟩
          · have h1 : step1 t = t / 2 := by unfold step1; rw [if_neg hp]
            rw [h1] at hss
            have hte : ((t : Int) % 2 == 1) = false := by rw [show (t : Int) % 2 = 0 by omega]; rfl
            have HSS := Lib.hid hss
            clear h1 hss
            go_wp2_with fail
            exact ⟨⟨k + 1, by omega, by go_num, by rw [HSS.out]; go_num⟩, by simp [intOf]; omega⟩
        · obtain rfl : k = 8 := by omega
          have hy := HY.out rfl
          have HYY := Lib.hid hy
          clear hss hy
          go_wp2
          go_round
          case rel => exact ⟨j + 1, by omega, by go_num, by rw [HYY.out]⟩
          case measure => simp [intOf]; omega
    · have hjj : s.data.toList.take j = s.data.toList := List.take_of_length_le (by simp; omega)
      rw [hjj] at hlt
      have HJ := Lib.hid hjj
      clear hjj
      have hz : ((4294967295 - crcFrom 4294967295 s.data.toList : Nat) : Int) = 4294967295 - (crcFrom 4294967295 s.data.toList : Int) := by omega
      have hcb : crcB s.data.toList = 4294967295 - crcFrom 4294967295 s.data.toList := rfl
      rw [← hcb] at hz
      have HZ := Lib.hid hz
      clear hcb hz
      rw [HJ.out]
      generalize crcFrom 4294967295 s.data.toList = y at *
      go_wp2
      rw [← HZ.out]
      go_ret
      exact ⟨rfl, rfl⟩
end Go.Proofs.YthcpjpebahiikaaDoor
