/-
  Walks over package num: Unfix.
-/
import Derived.Test.YthcpjpebahiikaaDoorMg3
import Derived.Test.YthcpjpebahiikaaDoorMg5
namespace Go.Proofs.YthcpjpebahiikaaDoor
open Go.RowKit Go.Lib

/-- The number of bytes, the lowest first. -/
def unleb : List UInt8 → Nat
  | [] => 0
  | c :: r => c.toNat + 256 * unleb r

theorem unleb_lt : ∀ l : List UInt8, unleb l < 2 ^ (8 * l.length)
  | [] => by simp [unleb]
  | c :: r => by
    have h := unleb_lt r
    have hc := c.toNat_lt
    rw [unleb, List.length_cons, show 8 * (r.length + 1) = 8 + 8 * r.length by omega, Nat.pow_add]
    omega

theorem unleb_snoc (c : UInt8) : ∀ l : List UInt8, unleb (l ++ [c]) = unleb l + c.toNat * 2 ^ (8 * l.length)
  | [] => by simp [unleb]
  | a :: r => by
    rw [List.cons_append, unleb, unleb_snoc c r, unleb, List.length_cons, show 8 * (r.length + 1) = 8 + 8 * r.length by omega, Nat.pow_add]
    have : c.toNat * (2 ^ 8 * 2 ^ (8 * r.length)) = 256 * (c.toNat * 2 ^ (8 * r.length)) := by
      rw [← Nat.mul_assoc, Nat.mul_comm c.toNat (2 ^ 8), Nat.mul_assoc]
    rw [this]
    omega

set_option maxRecDepth 1000000 in
set_option maxHeartbeats 400000 in
theorem unfix_arg (s : ByteArray) (a n : Int) (w : World) (h : n < 1 ∨ 7 < n ∨ a < 0) :
    Calls Tryd.prog 44 #[.string s, .int .i64 a, .int .i64 n] w fun e w' => e = .returned (.tuple #[.int .i64 0, .int .i64 1]) ∧ w = w' := by
  by_cases h1 : n < 1
  · go_enter Tryd.func44, Tryd.ntmps44
    go_wp2
    go_ret2
    exact ⟨rfl, rfl⟩
  · by_cases h2 : 7 < n
    · go_enter Tryd.func44, Tryd.ntmps44
      go_wp2
      go_ret2
      exact ⟨rfl, rfl⟩
    · have h3 : a < 0 := by omega
      go_enter Tryd.func44, Tryd.ntmps44
      go_wp2
      go_ret2
      exact ⟨rfl, rfl⟩

set_option maxRecDepth 1000000 in
set_option maxHeartbeats 400000 in
theorem unfix_short (s : ByteArray) (a n : Nat) (w : World) (h1 : 1 ≤ n) (h7 : n ≤ 7) (hs : s.size ≤ 9223372036854775807) (ha : a ≤ 9223372036854775807) (h : (s.size : Int) - (a : Int) < (n : Int)) :
    Calls Tryd.prog 44 #[.string s, .int .i64 a, .int .i64 n] w fun e w' => e = .returned (.tuple #[.int .i64 0, .int .i64 5]) ∧ w = w' := by
  go_enter Tryd.func44, Tryd.ntmps44
  go_wp2
  go_ret2
  exact ⟨rfl, rfl⟩

theorem wraps_i64 (n : Int) (h₀ : 0 ≤ n) (h₁ : n < 2 ^ 63) : IntKind.i64.wrap n = n := by rw [IntKind.wrap_i64]; omega

theorem or_byte (X c k : Nat) (hX : X < 2 ^ (8 * k)) (hc : c < 256) (hk : k ≤ 6) :
    bits .or .i64 (X : Int) (wrap64 (wrap64 (c : Int) * 2 ^ (8 * k))) = ((X + c * 2 ^ (8 * k) : Nat) : Int) := by
  have hp : (2 : Nat) ^ (8 * k) ≤ 2 ^ 48 := Nat.pow_le_pow_right (by decide) (by omega)
  have hlt : c * 2 ^ (8 * k) < 2 ^ 63 := by
    have h2 : c * 2 ^ (8 * k) ≤ 255 * 2 ^ 48 := Nat.le_trans (Nat.mul_le_mul_right _ (show c ≤ 255 by omega)) (Nat.mul_le_mul_left _ hp)
    exact Nat.lt_of_le_of_lt h2 (by decide)
  have hX63 : X < 2 ^ 63 := Nat.lt_of_lt_of_le hX (Nat.le_trans hp (by decide))
  have e1 : wrap64 (c : Int) = (c : Int) := by unfold wrap64; omega
  have e2 : (c : Int) * 2 ^ (8 * k) = ((c * 2 ^ (8 * k) : Nat) : Int) := by simp
  have e3 : wrap64 ((c * 2 ^ (8 * k) : Nat) : Int) = ((c * 2 ^ (8 * k) : Nat) : Int) := by unfold wrap64; omega
  rw [e1, e2, e3, (bits_nat .i64 63 (by decide) wraps_i64 X _ hX63 hlt).2, Nat.or_comm, nat_join (8 * k) _ _ (Nat.mul_mod_left _ _) hX, Nat.add_comm]

theorem take_drop_snoc (s : ByteArray) (a k : Nat) (h : a + k < s.size) : (s.data.toList.drop a).take (k + 1) = (s.data.toList.drop a).take k ++ [s[a + k]] := by
  rw [List.take_succ_eq_append_getElem (by simp; omega)]
  congr 2
  simp
  rfl

set_option maxRecDepth 1000000 in
set_option maxHeartbeats 400000 in
theorem unfix_ok (s : ByteArray) (a n : Nat) (w : World) (h1 : 1 ≤ n) (h7 : n ≤ 7) (hs : s.size ≤ 9223372036854775807) (h : a + n ≤ s.size) :
    Calls Tryd.prog 44 #[.string s, .int .i64 a, .int .i64 n] w fun e w' => e = .returned (.tuple #[.int .i64 (unleb ((s.data.toList.drop a).take n)), .int .i64 0]) ∧ w = w' := by
  go_enter Tryd.func44, Tryd.ntmps44
  go_wp2
  go_loop [8, 27] (fun v i => ∃ k : Nat, k ≤ n ∧ i = .int .i64 k ∧ v = .int .i64 (unleb ((s.data.toList.drop a).take k))) (fun _ i => n - (intOf i).toNat)
  case atStart => exact ⟨0, Nat.zero_le _, rfl, rfl⟩
  case round =>
    obtain ⟨k, hk, rfl, rfl⟩ := hrel
    by_cases hlt : k < n
    · have hx := unleb_lt ((s.data.toList.drop a).take k)
      have hlen : ((s.data.toList.drop a).take k).length = k := by simp; omega
      rw [hlen] at hx
      have hak : a + k < s.size := by omega
      have hor := or_byte _ s[a + k].toNat k hx s[a + k].toNat_lt (by omega)
      have hsn : unleb ((s.data.toList.drop a).take k) + s[a + k].toNat * 2 ^ (8 * k) = unleb ((s.data.toList.drop a).take (k + 1)) := by rw [take_drop_snoc s a k hak, unleb_snoc, hlen]
      rw [hsn] at hor
      have HOR := Lib.hid hor
      clear hor hsn hx hlen
      go_wp2
      go_round
      case rel => exact ⟨k + 1, by omega, by go_num, by rw [HOR.out]⟩
      case measure => simp [intOf]; omega
    · have hkn : k = n := by omega
      go_wp2
      go_ret2
      exact ⟨rfl, rfl⟩

/-- What Unfix tells, of any text and two ints. -/
def unfixV (l : List UInt8) (a n : Int) : Int := if n < 1 ∨ 7 < n ∨ a < 0 ∨ (l.length : Int) - a < n then 0 else (unleb ((l.drop a.toNat).take n.toNat) : Int)
def unfixE (l : List UInt8) (a n : Int) : Int := if n < 1 ∨ 7 < n ∨ a < 0 then 1 else if (l.length : Int) - a < n then 5 else 0

theorem unfix_any (s : ByteArray) (a n : Int) (w : World) (hs : s.size ≤ 9223372036854775807) (ha : a ≤ 9223372036854775807) :
    Calls Tryd.prog 44 #[.string s, .int .i64 a, .int .i64 n] w fun e w' => e = .returned (.tuple #[.int .i64 (unfixV s.data.toList a n), .int .i64 (unfixE s.data.toList a n)]) ∧ w = w' := by
  have hl : s.data.toList.length = s.size := by simp
  unfold unfixV unfixE
  rw [hl]
  by_cases h : n < 1 ∨ 7 < n ∨ a < 0
  · rw [if_pos (by omega), if_pos h]
    exact unfix_arg s a n w h
  · obtain ⟨k, rfl⟩ : ∃ k : Nat, n = k := ⟨n.toNat, by omega⟩
    obtain ⟨u, rfl⟩ : ∃ u : Nat, a = u := ⟨a.toNat, by omega⟩
    rw [if_neg h]
    by_cases hb : (s.size : Int) - u < k
    · rw [if_pos (by omega), if_pos hb]
      exact unfix_short s u k w (by omega) (by omega) hs (by omega) hb
    · rw [if_neg (by omega), if_neg hb]
      simp only [Int.toNat_natCast]
      exact unfix_ok s u k w (by omega) (by omega) hs (by omega)
end Go.Proofs.YthcpjpebahiikaaDoor
