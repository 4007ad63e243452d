/-
  Walks over the document's own answers to chapter 1: Fix, Unfix.
-/
import Derived.Test.YthcpjpebahiikaaDoorMg6
import Derived.Test.YthcpjpebahiikaaDoorMg7
import Derived.Test.YthcpjpebahiikaaDoorMg9
namespace Go.Proofs.YthcpjpebahiikaaDoor
open Go.RowKit Go.Lib

theorem leb_snoc : ∀ (j u : Nat), leb (j + 1) u = leb j u ++ [(u / 2 ^ (8 * j) % 256).toUInt8]
  | 0, u => by simp [leb]
  | j + 1, u => by
    rw [leb, leb_snoc j (u / 256), leb, List.cons_append, Nat.div_div_eq_div_mul, show 8 * (j + 1) = 8 + 8 * j by omega, Nat.pow_add]

theorem pow_div (u j : Nat) : u / 2 ^ (8 * j) / 256 = u / 2 ^ (8 * (j + 1)) := by
  rw [Nat.div_div_eq_div_mul, show 8 * (j + 1) = 8 * j + 8 by omega, Nat.pow_add]

set_option maxRecDepth 1000000 in
set_option maxHeartbeats 400000 in
theorem refFix_bad (v n : Int) (w : World) (h : n < 1 ∨ 7 < n ∨ v < 0) : Calls Tryd.prog 23 #[.int .i64 v, .int .i64 n] w fun e w' => e = .returned (.tuple #[.string ByteArray.empty, .int .i64 1]) ∧ w = w' := by
  by_cases h1 : n < 1
  · go_enter Tryd.func23, Tryd.ntmps23
    go_wp2
    go_ret2
    exact ⟨rfl, rfl⟩
  · by_cases h2 : 7 < n
    · go_enter Tryd.func23, Tryd.ntmps23
      go_wp2
      go_ret2
      exact ⟨rfl, rfl⟩
    · have h3 : v < 0 := by omega
      go_enter Tryd.func23, Tryd.ntmps23
      go_wp2
      go_ret2
      exact ⟨rfl, rfl⟩

set_option maxRecDepth 1000000 in
set_option maxHeartbeats 800000 in
theorem refFix_nat (u n : Nat) (w : World) (h1 : 1 ≤ n) (h7 : n ≤ 7) (hu : u ≤ 9223372036854775807) :
    Calls Tryd.prog 23 #[.int .i64 u, .int .i64 n] w fun e w' => e = .returned (.tuple #[.string ⟨(if u < 2 ^ (8 * n) then leb n u else []).toArray⟩, .int .i64 (if u < 2 ^ (8 * n) then 0 else 1)]) ∧ Below w.heap.size w w' := by
  go_enter Tryd.func23, Tryd.ntmps23
  go_wp2
  go_loopw [0, 6, 7] (fun x b i wr => ∃ j : Nat, j ≤ n ∧ i = .int .i64 j ∧ x = .int .i64 ((u / 2 ^ (8 * j) : Nat) : Int) ∧ Row wr w.heap.size b (leb j u) ∧ Below w.heap.size w wr) (fun _ _ i _ => n - (intOf i).toNat)
  case atStart => exact ⟨0, by omega, rfl, by simp, Row.nil_ _ _, Below.refl _ _⟩
  case round =>
    obtain ⟨j, hj, rfl, rfl, hr, hbl⟩ := hrel
    have hbs := hbl.size
    have hlen := leb_length j u
    have hle : u / 2 ^ (8 * j) ≤ 9223372036854775807 := Nat.le_trans (Nat.div_le_self _ _) hu
    by_cases hlt : j < n
    · have HL := Lib.hid (leb_snoc j u)
      have HP := Lib.hid (pow_div u j)
      have hml : (leb j u).length ≤ 70368744177664 := by omega
      generalize u / 2 ^ (8 * j) = x at *
      clear hlen
      go_wp2_with (at_builtin; refine append_byte rfl _ _ rfl w.heap.size wr u6 _ rfl hr _ (x % 256) rfl (by omega) (by omega) hml (by omega) ?_; intro b' w1 hr1 hb1)
      rw [← HL.out] at hr1
      go_roundw
      case rel => exact ⟨j + 1, by omega, by go_num, by rw [← HP.out]; simp, hr1, hbl.trans hb1⟩
      case measure => simp [intOf]; omega
    · obtain rfl : j = n := by omega
      have hstr := row_string hr
      by_cases hb : u < 2 ^ (8 * j)
      · have h0 : u / 2 ^ (8 * j) = 0 := Nat.div_eq_of_lt hb
        have HB := Lib.hid hb
        clear hb
        generalize u / 2 ^ (8 * j) = x at *
        subst h0
        go_wp2
        go_ret2
        exact ⟨by first | rfl | (rw [if_pos HB.out, if_pos HB.out]; rfl), hbl⟩
      · have h0 : 0 < u / 2 ^ (8 * j) := Nat.div_pos (by omega) (Nat.two_pow_pos _)
        have HB := Lib.hid hb
        clear hb
        generalize u / 2 ^ (8 * j) = x at *
        go_wp2
        go_ret2
        exact ⟨by first | rfl | (rw [if_neg HB.out, if_neg HB.out]; rfl), hbl⟩

theorem refFix_any (v n : Int) (w : World) (hv : v ≤ 9223372036854775807) :
    Calls Tryd.prog 23 #[.int .i64 v, .int .i64 n] w fun e w' => e = .returned (.tuple #[.string ⟨(fixB v n).toArray⟩, .int .i64 (fixE v n)]) ∧ Below w.heap.size w w' := by
  unfold fixB fixE
  by_cases h : n < 1 ∨ 7 < n ∨ v < 0
  · rw [if_neg (by omega), if_neg (by omega)]
    refine (refFix_bad v n w h).mono ?_
    rintro e w' ⟨rfl, rfl⟩
    exact ⟨rfl, Below.refl _ _⟩
  · obtain ⟨k, rfl⟩ : ∃ k : Nat, n = k := ⟨n.toNat, by omega⟩
    obtain ⟨u, rfl⟩ : ∃ u : Nat, v = u := ⟨v.toNat, by omega⟩
    simp only [Int.toNat_natCast]
    have ec : ((u : Int) < 2 ^ (8 * k)) ↔ u < 2 ^ (8 * k) := by
      rw [show ((2 : Int) ^ (8 * k)) = ((2 ^ (8 * k) : Nat) : Int) by simp]
      omega
    have hf := refFix_nat u k w (by omega) (by omega) (by omega)
    by_cases hb : u < 2 ^ (8 * k)
    · rw [if_pos hb, if_pos hb] at hf
      rw [if_pos ⟨by omega, by omega, by omega, ec.2 hb⟩, if_pos ⟨by omega, by omega, by omega, ec.2 hb⟩]
      exact hf
    · rw [if_neg hb, if_neg hb] at hf
      rw [if_neg (fun h => hb (ec.1 h.2.2.2)), if_neg (fun h => hb (ec.1 h.2.2.2))]
      exact hf

set_option maxRecDepth 1000000 in
set_option maxHeartbeats 400000 in
theorem refUnfix_arg (s : ByteArray) (a n : Int) (w : World) (h : n < 1 ∨ 7 < n ∨ a < 0) :
    Calls Tryd.prog 28 #[.string s, .int .i64 a, .int .i64 n] w fun e w' => e = .returned (.tuple #[.int .i64 0, .int .i64 1]) ∧ w = w' := by
  by_cases h1 : n < 1
  · go_enter Tryd.func28, Tryd.ntmps28
    go_wp2
    go_ret2
    exact ⟨rfl, rfl⟩
  · by_cases h2 : 7 < n
    · go_enter Tryd.func28, Tryd.ntmps28
      go_wp2
      go_ret2
      exact ⟨rfl, rfl⟩
    · have h3 : a < 0 := by omega
      go_enter Tryd.func28, Tryd.ntmps28
      go_wp2
      go_ret2
      exact ⟨rfl, rfl⟩

set_option maxRecDepth 1000000 in
set_option maxHeartbeats 400000 in
theorem refUnfix_short (s : ByteArray) (a n : Nat) (w : World) (h1 : 1 ≤ n) (h7 : n ≤ 7) (_hs : s.size ≤ 9223372036854775807) (ha : a ≤ 9223372036854775807) (h : (s.size : Int) - (a : Int) < (n : Int)) :
    Calls Tryd.prog 28 #[.string s, .int .i64 a, .int .i64 n] w fun e w' => e = .returned (.tuple #[.int .i64 0, .int .i64 5]) ∧ w = w' := by
  by_cases hsn : s.size < n
  · go_enter Tryd.func28, Tryd.ntmps28
    go_wp2
    go_ret2
    exact ⟨rfl, rfl⟩
  · have h2 : (s.size : Int) - (n : Int) < (a : Int) := by omega
    clear h
    go_enter Tryd.func28, Tryd.ntmps28
    go_wp2
    go_ret2
    exact ⟨rfl, rfl⟩

theorem unleb_cons (c : UInt8) (l : List UInt8) : unleb (c :: l) = c.toNat + 256 * unleb l := rfl

set_option maxRecDepth 1000000 in
set_option maxHeartbeats 800000 in
theorem refUnfix_ok (s : ByteArray) (a n : Nat) (w : World) (h1 : 1 ≤ n) (h7 : n ≤ 7) (hs : s.size ≤ 9223372036854775807) (h : a + n ≤ s.size) :
    Calls Tryd.prog 28 #[.string s, .int .i64 a, .int .i64 n] w fun e w' => e = .returned (.tuple #[.int .i64 (unleb ((s.data.toList.drop a).take n)), .int .i64 0]) ∧ w = w' := by
  have hsn : n ≤ s.size := by omega
  have h2 : (a : Int) ≤ (s.size : Int) - (n : Int) := by omega
  have HU := Lib.hid (rfl : unleb ((s.data.toList.drop a).take n) = unleb ((s.data.toList.drop a).take n))
  go_enter Tryd.func28, Tryd.ntmps28
  go_wp2
  go_loop [8, 9] (fun v i => ∃ (k : Nat) (m : Int), k ≤ n ∧ i = .int .i64 m ∧ m + 1 = k ∧ v = .int .i64 (unleb (((s.data.toList.drop a).take n).drop k))) (fun _ i => (intOf i + 1).toNat)
  case atStart => exact ⟨n, n - 1, Nat.le_refl _, rfl, by omega, by rw [List.drop_eq_nil_of_le (by simp; omega)]; rfl⟩
  case round =>
    obtain ⟨k, m, hk, rfl, hm, rfl⟩ := hrel
    by_cases h0 : k = 0
    · subst h0
      obtain rfl : m = -1 := by omega
      rw [List.drop_zero]
      go_wp2
      go_ret2
      exact ⟨rfl, rfl⟩
    · obtain ⟨j, rfl⟩ : ∃ j, k = j + 1 := ⟨k - 1, by omega⟩
      obtain rfl : m = (j : Int) := by omega
      have hajs : a + j < s.size := by omega
      have hd : unleb (((s.data.toList.drop a).take n).drop j) = s[a + j].toNat + 256 * unleb (((s.data.toList.drop a).take n).drop (j + 1)) := by
        have hlen : j < ((s.data.toList.drop a).take n).length := by simp; omega
        rw [List.drop_eq_getElem_cons hlen, unleb_cons]
        congr 2
        simp
        rfl
      have hlt := unleb_lt (((s.data.toList.drop a).take n).drop (j + 1))
      have hl2 : (((s.data.toList.drop a).take n).drop (j + 1)).length ≤ 6 := by simp; omega
      have hT : unleb (((s.data.toList.drop a).take n).drop (j + 1)) ≤ 281474976710656 := by
        have : (2 : Nat) ^ (8 * (((s.data.toList.drop a).take n).drop (j + 1)).length) ≤ 2 ^ 48 := Nat.pow_le_pow_right (by decide) (by omega)
        have e : (2 : Nat) ^ 48 = 281474976710656 := by decide
        omega
      have hc := s[a + j].toNat_lt
      have hst : ((unleb (((s.data.toList.drop a).take n).drop (j + 1)) : Nat) : Int) * 256 + (s[a + j].toNat : Int) = ((unleb (((s.data.toList.drop a).take n).drop j) : Nat) : Int) := by omega
      have HST := Lib.hid hst
      clear hd hlt hl2 hst
      generalize unleb (((s.data.toList.drop a).take n).drop (j + 1)) = T at *
      go_wp2
      exact ⟨⟨j, (j : Int) - 1, by omega, rfl, by omega, by rw [HST.out]⟩, by simp [intOf]⟩

theorem refUnfix_any (s : ByteArray) (a n : Int) (w : World) (hs : s.size ≤ 9223372036854775807) (ha : a ≤ 9223372036854775807) :
    Calls Tryd.prog 28 #[.string s, .int .i64 a, .int .i64 n] w fun e w' => e = .returned (.tuple #[.int .i64 (unfixV s.data.toList a n), .int .i64 (unfixE s.data.toList a n)]) ∧ w = w' := by
  have hl : s.data.toList.length = s.size := by simp
  unfold unfixV unfixE
  rw [hl]
  by_cases h : n < 1 ∨ 7 < n ∨ a < 0
  · rw [if_pos (by omega), if_pos h]
    exact refUnfix_arg s a n w h
  · obtain ⟨k, rfl⟩ : ∃ k : Nat, n = k := ⟨n.toNat, by omega⟩
    obtain ⟨u, rfl⟩ : ∃ u : Nat, a = u := ⟨a.toNat, by omega⟩
    rw [if_neg h]
    by_cases hb : (s.size : Int) - u < k
    · rw [if_pos (by omega), if_pos hb]
      exact refUnfix_short s u k w (by omega) (by omega) hs (by omega) hb
    · rw [if_neg (by omega), if_neg hb]
      simp only [Int.toNat_natCast]
      exact refUnfix_ok s u k w (by omega) (by omega) hs (by omega)
end Go.Proofs.YthcpjpebahiikaaDoor
