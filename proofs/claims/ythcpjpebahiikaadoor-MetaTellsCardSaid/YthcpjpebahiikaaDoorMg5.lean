/-
  Plain mathematics for the layer of numbers: nothing of the program stands here.
-/
import Derived.Lib.Varint
import Derived.Lib.VarintMem
import Derived.Lib.Zigzag
import Derived.Lib.VarintBits
import Derived.Laws.Bits64b
import Derived.Laws.BitsAllLaws
namespace Go.Proofs.YthcpjpebahiikaaDoor
open Go.Lib

/-- One number's groups from the front: the number, how many bytes, the error's number. -/
def gscan : Nat → Nat → List UInt8 → Nat × Nat × Nat
  | _, _, [] => (0, 0, 5)
  | i, acc, c :: r =>
    if i = 9 ∧ 1 < c.toNat then (0, 0, 4)
    else if c.toNat < 128 then (if c.toNat = 0 ∧ 0 < i then (0, 0, 4) else (acc + c.toNat * 2 ^ (7 * i), i + 1, 0))
    else gscan (i + 1) (acc + c.toNat % 128 * 2 ^ (7 * i)) r

theorem gscan_n_le : ∀ (l : List UInt8) (i acc : Nat), (gscan i acc l).2.1 ≤ i + l.length
  | [], i, acc => by simp [gscan]
  | c :: r, i, acc => by
    rw [gscan]
    split
    · simp
    · split
      · split
        · simp
        · simp
      · have := gscan_n_le r (i + 1) (acc + c.toNat % 128 * 2 ^ (7 * i))
        rw [List.length_cons]; omega

theorem gscan_err : ∀ (l : List UInt8) (i acc : Nat), ((gscan i acc l).2.2 = 0 ∧ 1 ≤ (gscan i acc l).2.1) ∨ (gscan i acc l = (0, 0, 4)) ∨ (gscan i acc l = (0, 0, 5))
  | [], i, acc => by simp [gscan]
  | c :: r, i, acc => by
    rw [gscan]
    split
    · simp
    · split
      · split
        · simp
        · simp
      · exact gscan_err r _ _

/-- What is laid is read: the groups of x, and whatever stands behind them. -/
theorem gscan_uvarint : ∀ (k x : Nat) (rest : List UInt8) (i acc : Nat), i + k = 9 → x < 2 ^ (64 - 7 * i) → (0 < i → 0 < x) →
    gscan i acc (uvarint x ++ rest) = (acc + x * 2 ^ (7 * i), i + (uvarint x).length, 0)
  | k, x, rest, i, acc, hk, hx, hi => by
    by_cases h : x < 128
    · rw [uvarint_small h, List.cons_append, List.nil_append, gscan]
      have e : (x.toUInt8).toNat = x := toUInt8_toNat (by omega)
      rw [e]
      have h9 : ¬ (i = 9 ∧ 1 < x) := by
        rintro ⟨rfl, h1⟩
        have : x < 2 := hx
        omega
      rw [if_neg h9, if_pos h, if_neg (by omega)]
      simp
    · match k, hk with
      | 0, hk =>
        exfalso
        have : i = 9 := by omega
        subst this
        have : x < 2 := hx
        omega
      | k + 1, hk =>
        rw [uvarint_big (by omega), List.cons_append, gscan]
        have hm : x % 128 + 128 < 256 := by omega
        have e : ((x % 128 + 128).toUInt8).toNat = x % 128 + 128 := toUInt8_toNat hm
        rw [e, if_neg (by omega), if_neg (by omega)]
        have hx' : x / 128 < 2 ^ (64 - 7 * (i + 1)) := by
          rw [show 64 - 7 * i = (64 - 7 * (i + 1)) + 7 by omega, Nat.pow_add] at hx
          exact Nat.div_lt_of_lt_mul (by rw [Nat.mul_comm]; exact hx)
        rw [gscan_uvarint k (x / 128) rest (i + 1) _ (by omega) hx' (by omega)]
        have e2 : (x % 128 + 128) % 128 = x % 128 := by omega
        have e3 : (2 : Nat) ^ (7 * (i + 1)) = 128 * 2 ^ (7 * i) := by rw [show 7 * (i + 1) = 7 + 7 * i by omega, Nat.pow_add]
        rw [e2, e3, List.length_cons]
        refine Prod.ext ?_ (Prod.ext ?_ rfl)
        · show acc + x % 128 * 2 ^ (7 * i) + x / 128 * (128 * 2 ^ (7 * i)) = acc + x * 2 ^ (7 * i)
          rw [← Nat.mul_assoc, Nat.add_assoc, ← Nat.add_mul]
          congr 2
          omega
        · show i + 1 + _ = i + (_ + 1)
          omega

theorem gscan_laid (v : Int) (h0 : -9223372036854775808 ≤ v) (h1 : v ≤ 9223372036854775807) (rest : List UInt8) :
    gscan 0 0 (uvarint (zigzag v) ++ rest) = (zigzag v, (uvarint (zigzag v)).length, 0) := by
  have := gscan_uvarint 9 (zigzag v) rest 0 0 rfl (zigzag_lt h0 h1) (by omega)
  simpa using this

theorem gscan_u_lt : ∀ (l : List UInt8) (i acc : Nat), i ≤ 9 → acc < 2 ^ (7 * i) → (gscan i acc l).1 < 2 ^ 64
  | [], i, acc, _, _ => by simp [gscan]
  | c :: r, i, acc, hi, hacc => by
    have hc := c.toNat_lt
    have hp : (2 : Nat) ^ (7 * (i + 1)) = 128 * 2 ^ (7 * i) := by rw [show 7 * (i + 1) = 7 + 7 * i by omega, Nat.pow_add]
    rw [gscan]
    split
    · simp
    · rename_i h9
      split
      · rename_i hlt
        split
        · simp
        · show acc + c.toNat * 2 ^ (7 * i) < 2 ^ 64
          by_cases h : i = 9
          · subst h
            have : c.toNat ≤ 1 := by omega
            have : c.toNat * 2 ^ (7 * 9) ≤ 1 * 2 ^ (7 * 9) := Nat.mul_le_mul_right _ this
            omega
          · have hle : c.toNat * 2 ^ (7 * i) ≤ 127 * 2 ^ (7 * i) := Nat.mul_le_mul_right _ (by omega)
            have : (2 : Nat) ^ (7 * (i + 1)) ≤ 2 ^ 63 := Nat.pow_le_pow_right (by decide) (by omega)
            omega
      · rename_i hge
        have hi8 : i ≤ 8 := by omega
        refine gscan_u_lt r (i + 1) _ (by omega) ?_
        have hle : c.toNat % 128 * 2 ^ (7 * i) ≤ 127 * 2 ^ (7 * i) := Nat.mul_le_mul_right _ (by omega)
        omega

/-- One group more: what the code's bits spell. -/
theorem or_step (X k c : Nat) (hX : X < 2 ^ (7 * k)) (hk : k ≤ 9) (hc : c < 256) (h9 : k = 9 → c ≤ 1) :
    bits .or .u64 (X : Int) (IntKind.u64.wrap (IntKind.u64.wrap (bits .andNot .u8 (c : Int) 128) * 2 ^ (7 * k))) = ((X + c % 128 * 2 ^ (7 * k) : Nat) : Int) := by
  have e1 : bits .andNot .u8 (c : Int) 128 = ((c % 128 : Nat) : Int) := by
    have := u8_andNot_nat c 128 hc (by decide)
    rw [show ((128 : Nat) : Int) = 128 from rfl] at this
    rw [this, show 255 - 128 = 127 from rfl, nat_mask7]
  have e2 : IntKind.u64.wrap ((c % 128 : Nat) : Int) = ((c % 128 : Nat) : Int) := by rw [IntKind.wrap_u64]; omega
  have hlt : c % 128 * 2 ^ (7 * k) < 2 ^ 64 := by
    by_cases h : k = 9
    · have := h9 h
      subst h
      have h2 : c % 128 * 2 ^ (7 * 9) ≤ 1 * 2 ^ (7 * 9) := Nat.mul_le_mul_right _ (by omega)
      have h3 : (1 : Nat) * 2 ^ (7 * 9) < 2 ^ 64 := by decide
      exact Nat.lt_of_le_of_lt h2 h3
    · have h2 : c % 128 * 2 ^ (7 * k) ≤ 127 * 2 ^ (7 * k) := Nat.mul_le_mul_right _ (by omega)
      have h3 : (2 : Nat) ^ (7 * k) ≤ 2 ^ (7 * 8) := Nat.pow_le_pow_right (by decide) (by omega)
      have h4 : (127 : Nat) * 2 ^ (7 * 8) < 2 ^ 64 := by decide
      exact Nat.lt_of_le_of_lt (Nat.le_trans h2 (Nat.mul_le_mul_left _ h3)) h4
  have hX64 : X < 2 ^ 64 :=
    Nat.lt_of_lt_of_le hX (Nat.le_trans (Nat.pow_le_pow_right (by decide) (show 7 * k ≤ 63 by omega)) (by decide))
  have e3 : IntKind.u64.wrap (((c % 128 : Nat) : Int) * 2 ^ (7 * k)) = ((c % 128 * 2 ^ (7 * k) : Nat) : Int) := by
    have : ((c % 128 : Nat) : Int) * 2 ^ (7 * k) = ((c % 128 * 2 ^ (7 * k) : Nat) : Int) := by simp
    rw [this, IntKind.wrap_u64]
    omega
  rw [e1, e2, e3, bits_or_u64_nat _ _ hX64 hlt, Nat.or_comm, nat_join (7 * k) _ _ (Nat.mul_mod_left _ _) hX, Nat.add_comm]

theorem or_step9 (X c : Nat) (hX : X < 2 ^ 63) (h9 : c ≤ 1) :
    bits .or .u64 (X : Int) (IntKind.u64.wrap (IntKind.u64.wrap (bits .andNot .u8 (c : Int) 128) * 9223372036854775808)) = ((X + c * 2 ^ 63 : Nat) : Int) := by
  have h := or_step X 9 c hX (by omega) (by omega) (fun _ => h9)
  rw [show ((2 : Int) ^ (7 * 9)) = 9223372036854775808 by decide, show c % 128 = c by omega] at h
  exact h

theorem drop_cons (s : ByteArray) (k : Nat) (h : k < s.size) : s.data.toList.drop k = s[k] :: s.data.toList.drop (k + 1) := by
  rw [List.drop_eq_getElem_cons (by simpa using h)]
  rfl

/-- The steps of a round, as the walk asks for them. -/
theorem gs_over {s : ByteArray} {k X : Nat} (h : k < s.size) (e9 : (k : Int) = 9) (h1 : 1 < (s[k].toNat : Int)) : gscan k X (s.data.toList.drop k) = (0, 0, 4) := by
  rw [drop_cons s k h, gscan, if_pos ⟨by omega, by omega⟩]
theorem gs_zero {s : ByteArray} {k X : Nat} (h : k < s.size) (h0 : s[k].toNat = 0) (hk : 0 < k) : gscan k X (s.data.toList.drop k) = (0, 0, 4) := by
  rw [drop_cons s k h, gscan, if_neg (by omega), if_pos (by omega), if_pos ⟨h0, hk⟩]
theorem gs_last {s : ByteArray} {k X : Nat} (h : k < s.size) (h9 : ¬ (k = 9 ∧ 1 < s[k].toNat)) (h1 : s[k].toNat < 128) (h0 : ¬ (s[k].toNat = 0 ∧ 0 < k)) :
    gscan k X (s.data.toList.drop k) = (X + s[k].toNat * 2 ^ (7 * k), k + 1, 0) := by
  rw [drop_cons s k h, gscan, if_neg h9, if_pos h1, if_neg h0]
theorem gs_more {s : ByteArray} {k X : Nat} (h : k < s.size) (h9 : ¬ k = 9) (h1 : 128 ≤ s[k].toNat) :
    gscan k X (s.data.toList.drop k) = gscan (k + 1) (X + s[k].toNat % 128 * 2 ^ (7 * k)) (s.data.toList.drop (k + 1)) := by
  rw [drop_cons s k h, gscan, if_neg (by omega), if_neg (by omega)]
theorem gs_end {s : ByteArray} {k X : Nat} (h : ¬ k < s.size) : gscan k X (s.data.toList.drop k) = (0, 0, 5) := by
  rw [List.drop_eq_nil_of_le (by simp; omega), gscan]
theorem acc_step {X k c : Nat} (hX : X < 2 ^ (7 * k)) : X + c % 128 * 2 ^ (7 * k) < 2 ^ (7 * (k + 1)) := by
  have hp : (2 : Nat) ^ (7 * (k + 1)) = 128 * 2 ^ (7 * k) := by rw [show 7 * (k + 1) = 7 + 7 * k by omega, Nat.pow_add]
  have hle : c % 128 * 2 ^ (7 * k) ≤ 127 * 2 ^ (7 * k) := Nat.mul_le_mul_right _ (by omega)
  omega

end Go.Proofs.YthcpjpebahiikaaDoor
