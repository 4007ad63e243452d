/-
  Plain mathematics: decimal digits are read as the number that they were.
-/
import Derived.Test.YtdkafkdilmheiaaDoorW9
import Derived.Lib.ItoaMem
namespace Go.Proofs.YtdkafkdilmheiaaDoor
open Go.Lib

theorem dig_toNat {d : Nat} (h : d < 10) : (UInt8.ofNat (48 + d)).toNat = 48 + d := by
  rw [UInt8.toNat_ofNat']
  omega
theorem isDig_of {d : Nat} (h : d < 10) : isDig (UInt8.ofNat (48 + d)) = true := by
  unfold isDig
  rw [dig_toNat h]
  simp
  omega
theorem numScan_append : ∀ (l r : List UInt8) (v : Nat), numScan (l ++ r) v = (numScan l v).bind (numScan r)
  | [], _, _ => rfl
  | c :: l, r, v => by
    rw [List.cons_append, numScan, numScan]
    split
    · exact numScan_append l r _
    · rfl
theorem numScan_one {d : Nat} (h : d < 10) (v : Nat) : numScan [UInt8.ofNat (48 + d)] v = some (10 * v + d) := by
  rw [numScan, isDig_of h, if_pos rfl, dig_toNat h, numScan]
  congr 2
  omega
theorem decDigits_big {u : Nat} (h : ¬ u < 10) : decDigits u = decDigits (u / 10) ++ [UInt8.ofNat (48 + u % 10)] := by
  conv => lhs; rw [decDigits, dif_neg h]

theorem scan_dec (u : Nat) : numScan (decDigits u) 0 = some u := by
  induction u using Nat.strongRecOn with
  | _ u ih =>
    by_cases h : u < 10
    · rw [decDigits_one h, numScan_one h]; simp
    · rw [decDigits_big h, numScan_append, ih (u / 10) (by omega)]
      show numScan [UInt8.ofNat (48 + u % 10)] (u / 10) = some u
      rw [numScan_one (by omega)]
      congr 1
      omega

theorem dec_head (u : Nat) : ∃ d, d < 10 ∧ (decDigits u).head? = some (UInt8.ofNat (48 + d)) ∧ (0 < u → 0 < d) := by
  induction u using Nat.strongRecOn with
  | _ u ih =>
    by_cases h : u < 10
    · exact ⟨u, h, by rw [decDigits_one h]; rfl, fun h => h⟩
    · obtain ⟨d, h1, h2, h3⟩ := ih (u / 10) (by omega)
      refine ⟨d, h1, ?_, fun _ => h3 (by omega)⟩
      rw [decDigits_big h, List.head?_append, h2]
      rfl

theorem nDigits_le (k : Nat) : ∀ u, u < 10 ^ (k + 1) → nDigits u ≤ k + 1 := by
  induction k with
  | zero => intro u h; rw [nDigits_small (by simpa using h)]; omega
  | succ k ih =>
    intro u h
    by_cases hu : u < 10
    · rw [nDigits_small hu]; omega
    · rw [nDigits_big hu]
      have := ih (u / 10) (by rw [Nat.pow_succ] at h; omega)
      omega
theorem dec_short {u : Nat} (h : u < 1000000000000000000) : (decDigits u).length ≤ 18 := by
  rw [decDigits_length]
  exact nDigits_le 17 u h
theorem dec_long {u : Nat} (h : ¬ u < 1000000000000000000) : 18 < (decDigits u).length := by
  rw [decDigits_length]
  rcases Nat.lt_or_ge 18 (nDigits u) with h1 | h1
  · exact h1
  · have := lt_pow_nDigits u
    have h2 : (10 : Nat) ^ nDigits u ≤ 10 ^ 18 := Nat.pow_le_pow_right (by decide) h1
    have h3 : (10 : Nat) ^ 18 = 1000000000000000000 := by decide
    omega

theorem ofNat_ne {d e : Nat} (hd : d < 256) (he : e < 256) (h : d ≠ e) : UInt8.ofNat d ≠ UInt8.ofNat e := by
  intro hc
  have := congrArg UInt8.toNat hc
  rw [UInt8.toNat_ofNat', UInt8.toNat_ofNat'] at this
  omega

theorem tail_dec {u : Nat} (hu : 0 < u) : numTail (decDigits u) = if u < 1000000000000000000 then some u else none := by
  obtain ⟨d, h1, h2, h3⟩ := dec_head u
  have hne : ¬ (decDigits u).head? = some 48 := by
    rw [h2]
    intro e
    exact ofNat_ne (d := 48 + d) (e := 48) (by omega) (by decide) (by have := h3 hu; omega) (Option.some.inj e)
  have hlen : 1 ≤ (decDigits u).length := by rw [decDigits_length]; exact nDigits_pos u
  unfold numTail
  by_cases h : u < 1000000000000000000
  · have := dec_short h
    rw [if_pos h, if_neg, scan_dec]
    rintro (h | h | h)
    · omega
    · omega
    · exact hne h
  · have := dec_long h
    rw [if_neg h, if_pos (Or.inr (Or.inl this))]

/-- The digits of an int are read as it was, if they are few enough. -/
theorem num_itoa (a : Int) : numOf (itoa a) = if -1000000000000000000 < a ∧ a < 1000000000000000000 then some a else none := by
  rcases Int.lt_trichotomy a 0 with h | h | h
  · obtain ⟨u, rfl⟩ : ∃ u : Nat, a = -(u : Int) := ⟨a.natAbs, by omega⟩
    have hu : 1 ≤ u := by omega
    rw [itoa_neg u hu]
    unfold numOf
    rw [if_neg (by intro e; injection e with e1 _; exact absurd e1 (by decide)), List.head?_cons, if_pos rfl, List.tail_cons, tail_dec (by omega)]
    by_cases hs : u < 1000000000000000000
    · rw [if_pos hs, if_pos (by omega)]; rfl
    · rw [if_neg hs, if_neg (by omega)]; rfl
  · subst h
    have e : itoa 0 = [48] := (itoa_nonneg 0).trans (decDigits_one (by decide))
    rw [e, if_pos (by omega)]
    rfl
  · obtain ⟨u, rfl⟩ : ∃ u : Nat, a = (u : Int) := ⟨a.natAbs, by omega⟩
    have hu : 0 < u := by omega
    rw [itoa_nonneg]
    obtain ⟨d, h1, h2, h3⟩ := dec_head u
    have hd := h3 hu
    unfold numOf
    rw [if_neg, if_neg, tail_dec hu]
    · by_cases hs : u < 1000000000000000000
      · rw [if_pos hs, if_pos (by omega)]; rfl
      · rw [if_neg hs, if_neg (by omega)]; rfl
    · rw [h2]
      intro e
      exact ofNat_ne (d := 48 + d) (e := 45) (by omega) (by decide) (by omega) (Option.some.inj e)
    · intro e
      rw [e] at h2
      have := Option.some.inj h2
      exact ofNat_ne (d := 48 + d) (e := 48) (by omega) (by decide) (by omega) this.symm

/-- Two ints have the same digits just if they are the same. -/
theorem itoa_inj {a b : Int} (h : itoa a = itoa b) : a = b := by
  have key : ∀ u w : Nat, decDigits u = decDigits w → u = w := fun u w e => by
    have h1 := scan_dec u
    rw [e, scan_dec w] at h1
    exact (Option.some.inj h1).symm
  have hd : ∀ (u : Nat) (l : List UInt8), decDigits u ≠ 45 :: l := fun u l e => by
    obtain ⟨d, h1, h2, _⟩ := dec_head u
    rw [e] at h2
    exact ofNat_ne (d := 48 + d) (e := 45) (by omega) (by decide) (by omega) (Option.some.inj h2).symm
  unfold itoa at h
  by_cases ha : a < 0
  · by_cases hb : b < 0
    · rw [if_pos ha, if_pos hb] at h
      injection h with _ h
      have := key _ _ h
      omega
    · rw [if_pos ha, if_neg hb] at h
      exact absurd h.symm (hd _ _)
  · by_cases hb : b < 0
    · rw [if_neg ha, if_pos hb] at h
      exact absurd h (hd _ _)
    · rw [if_neg ha, if_neg hb] at h
      have := key _ _ h
      omega

end Go.Proofs.YtdkafkdilmheiaaDoor
