/-
  Plain mathematics for the layer of numbers: nothing of the program stands here. Walks over package num: Fix, Unfix. Walks over package num: Unfix. Numbers as bytes, there and back: nothing of the program stands here.
-/
import Derived.Lib.Varint
import Derived.Lib.VarintMem
import Derived.Lib.Zigzag
import Derived.Lib.VarintBits
import Derived.Laws.Bits64b
import Derived.Laws.BitsAllLaws
import Derived.Test.YtmcfldcpmjdfbaaGreatDoorMg10
namespace Go.Proofs.YtmcfldcpmjdfbaaGreatDoor
open Go.Lib

/-- One number's groups from the front: the number, how many bytes, the error's number. -/
def gscan : Nat → Nat → List UInt8 → Nat × Nat × Nat
  | _, _, [] => (0, 0, 5)
  | i, acc, c :: r =>
    if i = 9 ∧ 1 < c.toNat then (0, 0, 4)
    else if c.toNat < 128 then (if c.toNat = 0 ∧ 0 < i then (0, 0, 4) else (acc + c.toNat * 2 ^ (7 * i), i + 1, 0))
    else gscan (i + 1) (acc + c.toNat % 128 * 2 ^ (7 * i)) r

theorem gscan_n_le : ∀ (l : List UInt8) (i acc : Nat), (gscan i acc l).2.1 ≤ i + l.length
  | [], i, acc => by simp [gscan]
  | c :: r, i, acc => by
    rw [gscan]
    split
    · simp
    · split
      · split
        · simp
        · simp
      · have := gscan_n_le r (i + 1) (acc + c.toNat % 128 * 2 ^ (7 * i))
        rw [List.length_cons]; omega

theorem gscan_err : ∀ (l : List UInt8) (i acc : Nat), ((gscan i acc l).2.2 = 0 ∧ 1 ≤ (gscan i acc l).2.1) ∨ (gscan i acc l = (0, 0, 4)) ∨ (gscan i acc l = (0, 0, 5))
  | [], i, acc => by simp [gscan]
  | c :: r, i, acc => by
    rw [gscan]
    split
    · simp
    · split
      · split
        · simp
        · simp
      · exact gscan_err r _ _

/-- What is laid is read: the groups of x, and whatever stands behind them. -/
theorem gscan_uvarint : ∀ (k x : Nat) (rest : List UInt8) (i acc : Nat), i + k = 9 → x < 2 ^ (64 - 7 * i) → (0 < i → 0 < x) →
    gscan i acc (uvarint x ++ rest) = (acc + x * 2 ^ (7 * i), i + (uvarint x).length, 0)
  | k, x, rest, i, acc, hk, hx, hi => by
    by_cases h : x < 128
    · rw [uvarint_small h, List.cons_append, List.nil_append, gscan]
      have e : (x.toUInt8).toNat = x := toUInt8_toNat (by omega)
      rw [e]
      have h9 : ¬ (i = 9 ∧ 1 < x) := by
        rintro ⟨rfl, h1⟩
        have : x < 2 := hx
        omega
      rw [if_neg h9, if_pos h, if_neg (by omega)]
      simp
    · match k, hk with
      | 0, hk =>
        exfalso
        have : i = 9 := by omega
        subst this
        have : x < 2 := hx
        omega
      | k + 1, hk =>
        rw [uvarint_big (by omega), List.cons_append, gscan]
        have hm : x % 128 + 128 < 256 := by omega
        have e : ((x % 128 + 128).toUInt8).toNat = x % 128 + 128 := toUInt8_toNat hm
        rw [e, if_neg (by omega), if_neg (by omega)]
        have hx' : x / 128 < 2 ^ (64 - 7 * (i + 1)) := by
          rw [show 64 - 7 * i = (64 - 7 * (i + 1)) + 7 by omega, Nat.pow_add] at hx
          exact Nat.div_lt_of_lt_mul (by rw [Nat.mul_comm]; exact hx)
        rw [gscan_uvarint k (x / 128) rest (i + 1) _ (by omega) hx' (by omega)]
        have e2 : (x % 128 + 128) % 128 = x % 128 := by omega
        have e3 : (2 : Nat) ^ (7 * (i + 1)) = 128 * 2 ^ (7 * i) := by rw [show 7 * (i + 1) = 7 + 7 * i by omega, Nat.pow_add]
        rw [e2, e3, List.length_cons]
        refine Prod.ext ?_ (Prod.ext ?_ rfl)
        · show acc + x % 128 * 2 ^ (7 * i) + x / 128 * (128 * 2 ^ (7 * i)) = acc + x * 2 ^ (7 * i)
          rw [← Nat.mul_assoc, Nat.add_assoc, ← Nat.add_mul]
          congr 2
          omega
        · show i + 1 + _ = i + (_ + 1)
          omega

theorem gscan_laid (v : Int) (h0 : -9223372036854775808 ≤ v) (h1 : v ≤ 9223372036854775807) (rest : List UInt8) :
    gscan 0 0 (uvarint (zigzag v) ++ rest) = (zigzag v, (uvarint (zigzag v)).length, 0) := by
  have := gscan_uvarint 9 (zigzag v) rest 0 0 rfl (zigzag_lt h0 h1) (by omega)
  simpa using this

theorem gscan_u_lt : ∀ (l : List UInt8) (i acc : Nat), i ≤ 9 → acc < 2 ^ (7 * i) → (gscan i acc l).1 < 2 ^ 64
  | [], i, acc, _, _ => by simp [gscan]
  | c :: r, i, acc, hi, hacc => by
    have hc := c.toNat_lt
    have hp : (2 : Nat) ^ (7 * (i + 1)) = 128 * 2 ^ (7 * i) := by rw [show 7 * (i + 1) = 7 + 7 * i by omega, Nat.pow_add]
    rw [gscan]
    split
    · simp
    · rename_i h9
      split
      · rename_i hlt
        split
        · simp
        · show acc + c.toNat * 2 ^ (7 * i) < 2 ^ 64
          by_cases h : i = 9
          · subst h
            have : c.toNat ≤ 1 := by omega
            have : c.toNat * 2 ^ (7 * 9) ≤ 1 * 2 ^ (7 * 9) := Nat.mul_le_mul_right _ this
            omega
          · have hle : c.toNat * 2 ^ (7 * i) ≤ 127 * 2 ^ (7 * i) := Nat.mul_le_mul_right _ (by omega)
            have : (2 : Nat) ^ (7 * (i + 1)) ≤ 2 ^ 63 := Nat.pow_le_pow_right (by decide) (by omega)
            omega
      · rename_i hge
        have hi8 : i ≤ 8 := by omega
        refine gscan_u_lt r (i + 1) _ (by omega) ?_
        have hle : c.toNat % 128 * 2 ^ (7 * i) ≤ 127 * 2 ^ (7 * i) := Nat.mul_le_mul_right _ (by omega)
        omega

/-- One group more: what the code's bits spell. -/
theorem or_step (X k c : Nat) (hX : X < 2 ^ (7 * k)) (hk : k ≤ 9) (hc : c < 256) (h9 : k = 9 → c ≤ 1) :
    bits .or .u64 (X : Int) (IntKind.u64.wrap (IntKind.u64.wrap (bits .andNot .u8 (c : Int) 128) * 2 ^ (7 * k))) = ((X + c % 128 * 2 ^ (7 * k) : Nat) : Int) := by
  have e1 : bits .andNot .u8 (c : Int) 128 = ((c % 128 : Nat) : Int) := by
    have := u8_andNot_nat c 128 hc (by decide)
    rw [show ((128 : Nat) : Int) = 128 from rfl] at this
    rw [this, show 255 - 128 = 127 from rfl, nat_mask7]
  have e2 : IntKind.u64.wrap ((c % 128 : Nat) : Int) = ((c % 128 : Nat) : Int) := by rw [IntKind.wrap_u64]; omega
  have hlt : c % 128 * 2 ^ (7 * k) < 2 ^ 64 := by
    by_cases h : k = 9
    · have := h9 h
      subst h
      have h2 : c % 128 * 2 ^ (7 * 9) ≤ 1 * 2 ^ (7 * 9) := Nat.mul_le_mul_right _ (by omega)
      have h3 : (1 : Nat) * 2 ^ (7 * 9) < 2 ^ 64 := by decide
      exact Nat.lt_of_le_of_lt h2 h3
    · have h2 : c % 128 * 2 ^ (7 * k) ≤ 127 * 2 ^ (7 * k) := Nat.mul_le_mul_right _ (by omega)
      have h3 : (2 : Nat) ^ (7 * k) ≤ 2 ^ (7 * 8) := Nat.pow_le_pow_right (by decide) (by omega)
      have h4 : (127 : Nat) * 2 ^ (7 * 8) < 2 ^ 64 := by decide
      exact Nat.lt_of_le_of_lt (Nat.le_trans h2 (Nat.mul_le_mul_left _ h3)) h4
  have hX64 : X < 2 ^ 64 :=
    Nat.lt_of_lt_of_le hX (Nat.le_trans (Nat.pow_le_pow_right (by decide) (show 7 * k ≤ 63 by omega)) (by decide))
  have e3 : IntKind.u64.wrap (((c % 128 : Nat) : Int) * 2 ^ (7 * k)) = ((c % 128 * 2 ^ (7 * k) : Nat) : Int) := by
    have : ((c % 128 : Nat) : Int) * 2 ^ (7 * k) = ((c % 128 * 2 ^ (7 * k) : Nat) : Int) := by simp
    rw [this, IntKind.wrap_u64]
    omega
  rw [e1, e2, e3, bits_or_u64_nat _ _ hX64 hlt, Nat.or_comm, nat_join (7 * k) _ _ (Nat.mul_mod_left _ _) hX, Nat.add_comm]

theorem or_step9 (X c : Nat) (hX : X < 2 ^ 63) (h9 : c ≤ 1) :
    bits .or .u64 (X : Int) (IntKind.u64.wrap (IntKind.u64.wrap (bits .andNot .u8 (c : Int) 128) * 9223372036854775808)) = ((X + c * 2 ^ 63 : Nat) : Int) := by
  have h := or_step X 9 c hX (by omega) (by omega) (fun _ => h9)
  rw [show ((2 : Int) ^ (7 * 9)) = 9223372036854775808 by decide, show c % 128 = c by omega] at h
  exact h

theorem drop_cons (s : ByteArray) (k : Nat) (h : k < s.size) : s.data.toList.drop k = s[k] :: s.data.toList.drop (k + 1) := by
  rw [List.drop_eq_getElem_cons (by simpa using h)]
  rfl

/-- The steps of a round, as the walk asks for them. -/
theorem gs_over {s : ByteArray} {k X : Nat} (h : k < s.size) (e9 : (k : Int) = 9) (h1 : 1 < (s[k].toNat : Int)) : gscan k X (s.data.toList.drop k) = (0, 0, 4) := by
  rw [drop_cons s k h, gscan, if_pos ⟨by omega, by omega⟩]
theorem gs_zero {s : ByteArray} {k X : Nat} (h : k < s.size) (h0 : s[k].toNat = 0) (hk : 0 < k) : gscan k X (s.data.toList.drop k) = (0, 0, 4) := by
  rw [drop_cons s k h, gscan, if_neg (by omega), if_pos (by omega), if_pos ⟨h0, hk⟩]
theorem gs_last {s : ByteArray} {k X : Nat} (h : k < s.size) (h9 : ¬ (k = 9 ∧ 1 < s[k].toNat)) (h1 : s[k].toNat < 128) (h0 : ¬ (s[k].toNat = 0 ∧ 0 < k)) :
    gscan k X (s.data.toList.drop k) = (X + s[k].toNat * 2 ^ (7 * k), k + 1, 0) := by
  rw [drop_cons s k h, gscan, if_neg h9, if_pos h1, if_neg h0]
theorem gs_more {s : ByteArray} {k X : Nat} (h : k < s.size) (h9 : ¬ k = 9) (h1 : 128 ≤ s[k].toNat) :
    gscan k X (s.data.toList.drop k) = gscan (k + 1) (X + s[k].toNat % 128 * 2 ^ (7 * k)) (s.data.toList.drop (k + 1)) := by
  rw [drop_cons s k h, gscan, if_neg (by omega), if_neg (by omega)]
theorem gs_end {s : ByteArray} {k X : Nat} (h : ¬ k < s.size) : gscan k X (s.data.toList.drop k) = (0, 0, 5) := by
  rw [List.drop_eq_nil_of_le (by simp; omega), gscan]
theorem acc_step {X k c : Nat} (hX : X < 2 ^ (7 * k)) : X + c % 128 * 2 ^ (7 * k) < 2 ^ (7 * (k + 1)) := by
  have hp : (2 : Nat) ^ (7 * (k + 1)) = 128 * 2 ^ (7 * k) := by rw [show 7 * (k + 1) = 7 + 7 * k by omega, Nat.pow_add]
  have hle : c % 128 * 2 ^ (7 * k) ≤ 127 * 2 ^ (7 * k) := Nat.mul_le_mul_right _ (by omega)
  omega

end Go.Proofs.YtmcfldcpmjdfbaaGreatDoor

namespace Go.Proofs.YtmcfldcpmjdfbaaGreatDoor
open Go.RowKit Go.Lib

/-- A number in n bytes, the lowest first. -/
def leb : Nat → Nat → List UInt8
  | 0, _ => []
  | n + 1, v => (v % 256).toUInt8 :: leb n (v / 256)

theorem leb_length : ∀ (n v : Nat), (leb n v).length = n
  | 0, _ => rfl
  | n + 1, v => by rw [leb, List.length_cons, leb_length n]

set_option maxRecDepth 1000000 in
set_option maxHeartbeats 400000 in
theorem fix_bad1 (v n : Int) (w : World) (h : n < 1 ∨ 7 < n ∨ v < 0) : Calls Tryz.prog 90 #[.int .i64 v, .int .i64 n] w fun e w' => e = .returned (.tuple #[.string ByteArray.empty, .int .i64 1]) ∧ w = w' := by
  by_cases h1 : n < 1
  · go_enter Tryz.func90, Tryz.ntmps90
    go_wp2
    go_ret2
    exact ⟨rfl, rfl⟩
  · by_cases h2 : 7 < n
    · go_enter Tryz.func90, Tryz.ntmps90
      go_wp2
      go_ret2
      exact ⟨rfl, rfl⟩
    · have h3 : v < 0 := by omega
      go_enter Tryz.func90, Tryz.ntmps90
      go_wp2
      go_ret2
      exact ⟨rfl, rfl⟩

theorem leb_get : ∀ (n v k : Nat), k < n → (leb n v)[k]? = some ((v / 2 ^ (8 * k) % 256).toUInt8)
  | n + 1, v, 0, _ => by simp [leb]
  | n + 1, v, k + 1, h => by
    rw [leb, List.getElem?_cons_succ, leb_get n (v / 256) k (by omega), Nat.div_div_eq_div_mul, show 8 * (k + 1) = 8 + 8 * k by omega, Nat.pow_add]

theorem set_fill {α : Type} (B : List α) (z x : α) (n k : Nat) (hk : k < n) (hB : B.length = n) (hx : B[k]? = some x) :
    (B.take k ++ List.replicate (n - k) z).set k x = B.take (k + 1) ++ List.replicate (n - (k + 1)) z := by
  rw [List.set_append_right _ _ (by simp; omega)]
  have e1 : k - (B.take k).length = 0 := by simp; omega
  rw [e1, show n - k = (n - (k + 1)) + 1 by omega, List.replicate_succ, List.set_cons_zero, List.take_add_one, hx]
  simp

theorem shr_zero {v n : Nat} (h : v < 2 ^ (8 * n)) : (((v : Int) / 2 ^ (8 * n)) != 0) = false := by
  have e : ((v : Int) / 2 ^ (8 * n)) = ((v / 2 ^ (8 * n) : Nat) : Int) := by simp
  rw [e, Nat.div_eq_of_lt h]
  rfl
theorem shr_some {v n : Nat} (h : ¬ v < 2 ^ (8 * n)) : (((v : Int) / 2 ^ (8 * n)) != 0) = true := by
  have e : ((v : Int) / 2 ^ (8 * n)) = ((v / 2 ^ (8 * n) : Nat) : Int) := by simp
  have h2 : 0 < v / 2 ^ (8 * n) := Nat.div_pos (by omega) (Nat.two_pow_pos _)
  rw [e]
  simp
  omega

set_option maxRecDepth 1000000 in
set_option maxHeartbeats 400000 in
theorem fix_big (v n : Nat) (w : World) (h1 : 1 ≤ n) (h7 : n ≤ 7) (hb : ¬ v < 2 ^ (8 * n)) : Calls Tryz.prog 90 #[.int .i64 v, .int .i64 n] w fun e w' => e = .returned (.tuple #[.string ByteArray.empty, .int .i64 1]) ∧ w = w' := by
  have hs := shr_some hb
  clear hb
  go_enter Tryz.func90, Tryz.ntmps90
  go_wp2
  go_ret2
  exact ⟨rfl, rfl⟩

set_option maxRecDepth 1000000 in
set_option maxHeartbeats 400000 in
theorem fix_ok (v n : Nat) (w : World) (h1 : 1 ≤ n) (h7 : n ≤ 7) (hv : v ≤ 9223372036854775807) (hb : v < 2 ^ (8 * n)) :
    Calls Tryz.prog 90 #[.int .i64 v, .int .i64 n] w fun e w' => e = .returned (.tuple #[.string ⟨(leb n v).toArray⟩, .int .i64 0]) ∧ Below w.heap.size w w' := by
  obtain ⟨i0, hi, hz0, hz1, hz2⟩ := info_parts Tryz.infoU8
  have hs := shr_zero hb
  clear hb
  go_enter Tryz.func90, Tryz.ntmps90
  go_wp2_with (at_make; refine wpList_make_full _ rfl _ _ 99 rfl w.heap.size 5 i0 (.int .u8 0) 1 Tryz.underlying99 hi hz0 hz1 .i64 .i64 n n n rfl rfl rfl rfl (by rw [hz2]; omega) (by unfold maxLen; omega) (Nat.le_refl _) ?_; intro w1 hown hgrow)
  have hrow : w1.ownsRow w.heap.size 5 1 (.slice (some ⟨w.heap.size, 0, none⟩) n n) n ((byteCells (leb n v)).take 0 ++ List.replicate (n - 0) (.int .u8 0)) := by
    have e := toList_madeCells_one (.int .u8 0) n
    simp only [Nat.mul_one] at hown
    have e2 : (Value.int .u8 0).cells = #[Value.int .u8 0] := rfl
    rw [e2, e] at hown
    simpa using hown
  have hbl : Below w.heap.size w w1 := (Below.refl _ _).grown hgrow (Nat.le_refl _) (fun k hk => by cases hk)
  clear hown hgrow
  go_loopw [29] (fun i wr => ∃ k : Nat, k ≤ n ∧ i = .int .i64 k ∧ wr.ownsRow w.heap.size 5 1 (.slice (some ⟨w.heap.size, 0, none⟩) n n) n ((byteCells (leb n v)).take k ++ List.replicate (n - k) (.int .u8 0)) ∧ Below w.heap.size w wr) (fun i _ => n - (intOf i).toNat)
  case atStart => exact ⟨0, Nat.zero_le _, rfl, hrow, hbl⟩
  case round =>
    obtain ⟨k, hk, rfl, hr, hbr⟩ := hrel
    by_cases hlt : k < n
    · have hg := leb_get n v k hlt
      have ec : ((v / 2 ^ (8 * k) % 256 : Nat) : Int) = (v : Int) / 2 ^ (8 * k) % 256 := by simp
      have hbk : (byteCells (leb n v))[k]? = some (.int .u8 ((v : Int) / 2 ^ (8 * k) % 256)) := by
        rw [byteCells, List.getElem?_map, hg, ← ec]
        simp [toUInt8_toNat]
      have hbl' : (byteCells (leb n v)).length = n := by rw [byteCells_length, leb_length]
      have hc : wr.cell? ⟨w.heap.size, k, none⟩ = some (.int .u8 0) := by
        rw [hr.cellAt k (by omega), List.getElem?_append_right (by simp; omega)]
        have e1 : k - ((byteCells (leb n v)).take k).length = 0 := by simp; omega
        rw [e1, show n - k = (n - (k + 1)) + 1 by omega]
        rfl
      have hfz := hr.frozenAt k
      obtain ⟨hst, hgr⟩ := hr.stored k (.int .u8 ((v : Int) / 2 ^ (8 * k) % 256))
      rw [set_fill _ _ _ n k hlt hbl' hbk] at hst
      clear hg hbk hr ec hbl'
      go_wp2
      go_roundw
      case rel => exact ⟨k + 1, by omega, by go_num, hst, hbr.grown hgr hbr.size (fun j hj => by cases hj; exact Nat.le_refl _)⟩
      case measure => simp [intOf]; omega
    · have hkn : k = n := by omega
      have hx : Row wr w.heap.size (.slice (some ⟨w.heap.size, 0, none⟩) n n) (leb n v) := by
        unfold Row
        rw [leb_length]
        rw [hkn, List.take_of_length_le (by rw [byteCells_length, leb_length]; omega)] at hr
        simpa using hr
      have hstr := row_string hx
      clear hr hx
      go_wp2
      go_ret2
      exact ⟨rfl, hbr⟩

/-- What Fix tells, of any two ints. -/
def fixB (v n : Int) : List UInt8 := if 1 ≤ n ∧ n ≤ 7 ∧ 0 ≤ v ∧ v < 2 ^ (8 * n.toNat) then leb n.toNat v.toNat else []
def fixE (v n : Int) : Int := if 1 ≤ n ∧ n ≤ 7 ∧ 0 ≤ v ∧ v < 2 ^ (8 * n.toNat) then 0 else 1

theorem fix_any (v n : Int) (w : World) (hv : v ≤ 9223372036854775807) :
    Calls Tryz.prog 90 #[.int .i64 v, .int .i64 n] w fun e w' => e = .returned (.tuple #[.string ⟨(fixB v n).toArray⟩, .int .i64 (fixE v n)]) ∧ Below w.heap.size w w' := by
  unfold fixB fixE
  by_cases h : n < 1 ∨ 7 < n ∨ v < 0
  · rw [if_neg (by omega), if_neg (by omega)]
    refine (fix_bad1 v n w h).mono ?_
    rintro e w' ⟨rfl, rfl⟩
    exact ⟨rfl, Below.refl _ _⟩
  · obtain ⟨k, rfl⟩ : ∃ k : Nat, n = k := ⟨n.toNat, by omega⟩
    obtain ⟨u, rfl⟩ : ∃ u : Nat, v = u := ⟨v.toNat, by omega⟩
    simp only [Int.toNat_natCast]
    have ec : ((u : Int) < 2 ^ (8 * k)) ↔ u < 2 ^ (8 * k) := by
      rw [show ((2 : Int) ^ (8 * k)) = ((2 ^ (8 * k) : Nat) : Int) by simp]
      omega
    by_cases hb : u < 2 ^ (8 * k)
    · rw [if_pos ⟨by omega, by omega, by omega, ec.2 hb⟩, if_pos ⟨by omega, by omega, by omega, ec.2 hb⟩]
      exact fix_ok u k w (by omega) (by omega) (by omega) hb
    · rw [if_neg (fun h => hb (ec.1 h.2.2.2)), if_neg (fun h => hb (ec.1 h.2.2.2))]
      refine (fix_big u k w (by omega) (by omega) hb).mono ?_
      rintro e w' ⟨rfl, rfl⟩
      exact ⟨rfl, Below.refl _ _⟩
end Go.Proofs.YtmcfldcpmjdfbaaGreatDoor

namespace Go.Proofs.YtmcfldcpmjdfbaaGreatDoor
open Go.RowKit Go.Lib

/-- The number of bytes, the lowest first. -/
def unleb : List UInt8 → Nat
  | [] => 0
  | c :: r => c.toNat + 256 * unleb r

theorem unleb_lt : ∀ l : List UInt8, unleb l < 2 ^ (8 * l.length)
  | [] => by simp [unleb]
  | c :: r => by
    have h := unleb_lt r
    have hc := c.toNat_lt
    rw [unleb, List.length_cons, show 8 * (r.length + 1) = 8 + 8 * r.length by omega, Nat.pow_add]
    omega

theorem unleb_snoc (c : UInt8) : ∀ l : List UInt8, unleb (l ++ [c]) = unleb l + c.toNat * 2 ^ (8 * l.length)
  | [] => by simp [unleb]
  | a :: r => by
    rw [List.cons_append, unleb, unleb_snoc c r, unleb, List.length_cons, show 8 * (r.length + 1) = 8 + 8 * r.length by omega, Nat.pow_add]
    have : c.toNat * (2 ^ 8 * 2 ^ (8 * r.length)) = 256 * (c.toNat * 2 ^ (8 * r.length)) := by
      rw [← Nat.mul_assoc, Nat.mul_comm c.toNat (2 ^ 8), Nat.mul_assoc]
    rw [this]
    omega

set_option maxRecDepth 1000000 in
set_option maxHeartbeats 400000 in
theorem unfix_arg (s : ByteArray) (a n : Int) (w : World) (h : n < 1 ∨ 7 < n ∨ a < 0) :
    Calls Tryz.prog 91 #[.string s, .int .i64 a, .int .i64 n] w fun e w' => e = .returned (.tuple #[.int .i64 0, .int .i64 1]) ∧ w = w' := by
  by_cases h1 : n < 1
  · go_enter Tryz.func91, Tryz.ntmps91
    go_wp2
    go_ret2
    exact ⟨rfl, rfl⟩
  · by_cases h2 : 7 < n
    · go_enter Tryz.func91, Tryz.ntmps91
      go_wp2
      go_ret2
      exact ⟨rfl, rfl⟩
    · have h3 : a < 0 := by omega
      go_enter Tryz.func91, Tryz.ntmps91
      go_wp2
      go_ret2
      exact ⟨rfl, rfl⟩

set_option maxRecDepth 1000000 in
set_option maxHeartbeats 400000 in
theorem unfix_short (s : ByteArray) (a n : Nat) (w : World) (h1 : 1 ≤ n) (h7 : n ≤ 7) (hs : s.size ≤ 9223372036854775807) (ha : a ≤ 9223372036854775807) (h : (s.size : Int) - (a : Int) < (n : Int)) :
    Calls Tryz.prog 91 #[.string s, .int .i64 a, .int .i64 n] w fun e w' => e = .returned (.tuple #[.int .i64 0, .int .i64 5]) ∧ w = w' := by
  go_enter Tryz.func91, Tryz.ntmps91
  go_wp2
  go_ret2
  exact ⟨rfl, rfl⟩

theorem wraps_i64 (n : Int) (h₀ : 0 ≤ n) (h₁ : n < 2 ^ 63) : IntKind.i64.wrap n = n := by rw [IntKind.wrap_i64]; omega

theorem or_byte (X c k : Nat) (hX : X < 2 ^ (8 * k)) (hc : c < 256) (hk : k ≤ 6) :
    bits .or .i64 (X : Int) (wrap64 (wrap64 (c : Int) * 2 ^ (8 * k))) = ((X + c * 2 ^ (8 * k) : Nat) : Int) := by
  have hp : (2 : Nat) ^ (8 * k) ≤ 2 ^ 48 := Nat.pow_le_pow_right (by decide) (by omega)
  have hlt : c * 2 ^ (8 * k) < 2 ^ 63 := by
    have h2 : c * 2 ^ (8 * k) ≤ 255 * 2 ^ 48 := Nat.le_trans (Nat.mul_le_mul_right _ (show c ≤ 255 by omega)) (Nat.mul_le_mul_left _ hp)
    exact Nat.lt_of_le_of_lt h2 (by decide)
  have hX63 : X < 2 ^ 63 := Nat.lt_of_lt_of_le hX (Nat.le_trans hp (by decide))
  have e1 : wrap64 (c : Int) = (c : Int) := by unfold wrap64; omega
  have e2 : (c : Int) * 2 ^ (8 * k) = ((c * 2 ^ (8 * k) : Nat) : Int) := by simp
  have e3 : wrap64 ((c * 2 ^ (8 * k) : Nat) : Int) = ((c * 2 ^ (8 * k) : Nat) : Int) := by unfold wrap64; omega
  rw [e1, e2, e3, (bits_nat .i64 63 (by decide) wraps_i64 X _ hX63 hlt).2, Nat.or_comm, nat_join (8 * k) _ _ (Nat.mul_mod_left _ _) hX, Nat.add_comm]

theorem take_drop_snoc (s : ByteArray) (a k : Nat) (h : a + k < s.size) : (s.data.toList.drop a).take (k + 1) = (s.data.toList.drop a).take k ++ [s[a + k]] := by
  rw [List.take_succ_eq_append_getElem (by simp; omega)]
  congr 2
  simp
  rfl

set_option maxRecDepth 1000000 in
set_option maxHeartbeats 400000 in
theorem unfix_ok (s : ByteArray) (a n : Nat) (w : World) (h1 : 1 ≤ n) (h7 : n ≤ 7) (hs : s.size ≤ 9223372036854775807) (h : a + n ≤ s.size) :
    Calls Tryz.prog 91 #[.string s, .int .i64 a, .int .i64 n] w fun e w' => e = .returned (.tuple #[.int .i64 (unleb ((s.data.toList.drop a).take n)), .int .i64 0]) ∧ w = w' := by
  go_enter Tryz.func91, Tryz.ntmps91
  go_wp2
  go_loop [8, 27] (fun v i => ∃ k : Nat, k ≤ n ∧ i = .int .i64 k ∧ v = .int .i64 (unleb ((s.data.toList.drop a).take k))) (fun _ i => n - (intOf i).toNat)
  case atStart => exact ⟨0, Nat.zero_le _, rfl, rfl⟩
  case round =>
    obtain ⟨k, hk, rfl, rfl⟩ := hrel
    by_cases hlt : k < n
    · have hx := unleb_lt ((s.data.toList.drop a).take k)
      have hlen : ((s.data.toList.drop a).take k).length = k := by simp; omega
      rw [hlen] at hx
      have hak : a + k < s.size := by omega
      have hor := or_byte _ s[a + k].toNat k hx s[a + k].toNat_lt (by omega)
      have hsn : unleb ((s.data.toList.drop a).take k) + s[a + k].toNat * 2 ^ (8 * k) = unleb ((s.data.toList.drop a).take (k + 1)) := by rw [take_drop_snoc s a k hak, unleb_snoc, hlen]
      rw [hsn] at hor
      have HOR := Lib.hid hor
      clear hor hsn hx hlen
      go_wp2
      go_round
      case rel => exact ⟨k + 1, by omega, by go_num, by rw [HOR.out]⟩
      case measure => simp [intOf]; omega
    · have hkn : k = n := by omega
      go_wp2
      go_ret2
      exact ⟨rfl, rfl⟩

/-- What Unfix tells, of any text and two ints. -/
def unfixV (l : List UInt8) (a n : Int) : Int := if n < 1 ∨ 7 < n ∨ a < 0 ∨ (l.length : Int) - a < n then 0 else (unleb ((l.drop a.toNat).take n.toNat) : Int)
def unfixE (l : List UInt8) (a n : Int) : Int := if n < 1 ∨ 7 < n ∨ a < 0 then 1 else if (l.length : Int) - a < n then 5 else 0

theorem unfix_any (s : ByteArray) (a n : Int) (w : World) (hs : s.size ≤ 9223372036854775807) (ha : a ≤ 9223372036854775807) :
    Calls Tryz.prog 91 #[.string s, .int .i64 a, .int .i64 n] w fun e w' => e = .returned (.tuple #[.int .i64 (unfixV s.data.toList a n), .int .i64 (unfixE s.data.toList a n)]) ∧ w = w' := by
  have hl : s.data.toList.length = s.size := by simp
  unfold unfixV unfixE
  rw [hl]
  by_cases h : n < 1 ∨ 7 < n ∨ a < 0
  · rw [if_pos (by omega), if_pos h]
    exact unfix_arg s a n w h
  · obtain ⟨k, rfl⟩ : ∃ k : Nat, n = k := ⟨n.toNat, by omega⟩
    obtain ⟨u, rfl⟩ : ∃ u : Nat, a = u := ⟨a.toNat, by omega⟩
    rw [if_neg h]
    by_cases hb : (s.size : Int) - u < k
    · rw [if_pos (by omega), if_pos hb]
      exact unfix_short s u k w (by omega) (by omega) hs (by omega) hb
    · rw [if_neg (by omega), if_neg hb]
      simp only [Int.toNat_natCast]
      exact unfix_ok s u k w (by omega) (by omega) hs (by omega)
end Go.Proofs.YtmcfldcpmjdfbaaGreatDoor

namespace Go.Proofs.YtmcfldcpmjdfbaaGreatDoor
open Go.RowKit Go.Lib

theorem eta (x : ByteArray) : (⟨x.data.toList.toArray⟩ : ByteArray) = x := by
  apply ByteArray.ext
  simp

theorem unleb_leb : ∀ (n v : Nat), v < 2 ^ (8 * n) → unleb (leb n v) = v
  | 0, v, h => by simp at h; subst h; rfl
  | n + 1, v, h => by
    have h1 : v / 256 < 2 ^ (8 * n) := by
      rw [show 8 * (n + 1) = 8 * n + 8 by omega, Nat.pow_add] at h
      exact Nat.div_lt_of_lt_mul (by rw [Nat.mul_comm]; exact h)
    rw [leb, unleb, unleb_leb n _ h1, toUInt8_toNat (by omega)]
    omega

theorem leb_unleb : ∀ l : List UInt8, leb l.length (unleb l) = l
  | [] => rfl
  | c :: r => by
    have hc := c.toNat_lt
    have h1 : (c.toNat + 256 * unleb r) % 256 = c.toNat := by omega
    have h2 : (c.toNat + 256 * unleb r) / 256 = unleb r := by omega
    rw [List.length_cons, unleb, leb, h1, h2, leb_unleb r]
    congr 1
    exact UInt8.toNat_inj.1 (toUInt8_toNat hc)
theorem leb_inj {n a b : Nat} (ha : a < 2 ^ (8 * n)) (hb : b < 2 ^ (8 * n)) (h : leb n a = leb n b) : a = b := by
  rw [← unleb_leb n a ha, ← unleb_leb n b hb, h]
theorem unleb_inj {a b : List UInt8} (hl : a.length = b.length) (h : unleb a = unleb b) : a = b := by
  rw [← leb_unleb a, ← leb_unleb b, hl, h]
end Go.Proofs.YtmcfldcpmjdfbaaGreatDoor
