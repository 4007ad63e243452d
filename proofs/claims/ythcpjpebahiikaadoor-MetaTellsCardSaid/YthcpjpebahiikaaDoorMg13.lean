/-
  Bits of an int, below 0 too: masks.
-/
import Derived.Test.YthcpjpebahiikaaDoorMg3
import Derived.Laws.BitsLemmas
namespace Go.Proofs.YthcpjpebahiikaaDoor
open Go.RowKit Go.Lib

theorem i64_mask (i : Nat) (hi : i ≤ 62) (x : Int) : bits .and .i64 x ((2 ^ i - 1 : Nat) : Int) = x % ((2 ^ i : Nat) : Int) := by
  have hm : 2 ^ i - 1 < 2 ^ 64 := Nat.lt_of_lt_of_le (Nat.sub_lt (Nat.two_pow_pos i) (by decide)) (Nat.pow_le_pow_right (by decide) (by omega))
  have hp : (2 : Nat) ^ i ≤ 2 ^ 62 := Nat.pow_le_pow_right (by decide) hi
  have hpos := Nat.two_pow_pos i
  have hx : 0 ≤ x % 18446744073709551616 := Int.emod_nonneg _ (by decide)
  obtain ⟨a, ha⟩ := Int.eq_ofNat_of_zero_le hx
  have e1 : (BitVec.ofInt 64 x).toNat = a := by
    rw [BitVec.toNat_ofInt]
    simp only [Nat.reducePow]
    have : ((18446744073709551616 : Nat) : Int) = 18446744073709551616 := rfl
    rw [this, ha]
    rfl
  have e2 : (BitVec.ofInt 64 ((2 ^ i - 1 : Nat) : Int)).toNat = 2 ^ i - 1 := by
    rw [BitVec.ofInt_natCast, BitVec.toNat_ofNat, Nat.mod_eq_of_lt hm]
  have e3 : x % ((2 ^ i : Nat) : Int) = ((a % 2 ^ i : Nat) : Int) := by
    rw [Int.natCast_emod, ← ha]
    rw [Int.emod_emod_of_dvd]
    have : (18446744073709551616 : Int) = ((2 ^ 64 : Nat) : Int) := rfl
    rw [this]
    exact_mod_cast Nat.pow_dvd_pow 2 (by omega : i ≤ 64)
  have e4 : a % 2 ^ i < 2 ^ i := Nat.mod_lt _ hpos
  rw [e3]
  have e0 : bits .and .i64 x ((2 ^ i - 1 : Nat) : Int) = IntKind.i64.wrap ((BitVec.ofInt 64 x &&& BitVec.ofInt 64 ((2 ^ i - 1 : Nat) : Int)).toNat : Int) := rfl
  rw [e0, BitVec.toNat_and, e1, e2, Nat.and_two_pow_sub_one_eq_mod]
  rw [IntKind.wrap_i64]
  generalize a % 2 ^ i = m at *
  have : (2 : Nat) ^ 62 = 4611686018427387904 := by decide
  omega

theorem i64_and255 (x : Int) : bits .and .i64 x 255 = x % 256 := i64_mask 8 (by omega) x
theorem i64_and1 (x : Int) : bits .and .i64 x 1 = x % 2 := i64_mask 1 (by omega) x
end Go.Proofs.YthcpjpebahiikaaDoor
