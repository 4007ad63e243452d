/-
  Walks over package num: Fix, Unfix.
-/
import Derived.Test.YthcpjpebahiikaaDoorMg3
import Derived.Test.YthcpjpebahiikaaDoorMg5
namespace Go.Proofs.YthcpjpebahiikaaDoor
open Go.RowKit Go.Lib

/-- A number in n bytes, the lowest first. -/
def leb : Nat → Nat → List UInt8
  | 0, _ => []
  | n + 1, v => (v % 256).toUInt8 :: leb n (v / 256)

theorem leb_length : ∀ (n v : Nat), (leb n v).length = n
  | 0, _ => rfl
  | n + 1, v => by rw [leb, List.length_cons, leb_length n]

set_option maxRecDepth 1000000 in
set_option maxHeartbeats 400000 in
theorem fix_bad1 (v n : Int) (w : World) (h : n < 1 ∨ 7 < n ∨ v < 0) : Calls Tryd.prog 21 #[.int .i64 v, .int .i64 n] w fun e w' => e = .returned (.tuple #[.string ByteArray.empty, .int .i64 1]) ∧ w = w' := by
  by_cases h1 : n < 1
  · go_enter Tryd.func21, Tryd.ntmps21
    go_wp2
    go_ret2
    exact ⟨rfl, rfl⟩
  · by_cases h2 : 7 < n
    · go_enter Tryd.func21, Tryd.ntmps21
      go_wp2
      go_ret2
      exact ⟨rfl, rfl⟩
    · have h3 : v < 0 := by omega
      go_enter Tryd.func21, Tryd.ntmps21
      go_wp2
      go_ret2
      exact ⟨rfl, rfl⟩

theorem leb_get : ∀ (n v k : Nat), k < n → (leb n v)[k]? = some ((v / 2 ^ (8 * k) % 256).toUInt8)
  | n + 1, v, 0, _ => by simp [leb]
  | n + 1, v, k + 1, h => by
    rw [leb, List.getElem?_cons_succ, leb_get n (v / 256) k (by omega), Nat.div_div_eq_div_mul, show 8 * (k + 1) = 8 + 8 * k by omega, Nat.pow_add]

theorem set_fill {α : Type} (B : List α) (z x : α) (n k : Nat) (hk : k < n) (hB : B.length = n) (hx : B[k]? = some x) :
    (B.take k ++ List.replicate (n - k) z).set k x = B.take (k + 1) ++ List.replicate (n - (k + 1)) z := by
  rw [List.set_append_right _ _ (by simp; omega)]
  have e1 : k - (B.take k).length = 0 := by simp; omega
  rw [e1, show n - k = (n - (k + 1)) + 1 by omega, List.replicate_succ, List.set_cons_zero, List.take_add_one, hx]
  simp

theorem shr_zero {v n : Nat} (h : v < 2 ^ (8 * n)) : (((v : Int) / 2 ^ (8 * n)) != 0) = false := by
  have e : ((v : Int) / 2 ^ (8 * n)) = ((v / 2 ^ (8 * n) : Nat) : Int) := by simp
  rw [e, Nat.div_eq_of_lt h]
  rfl
theorem shr_some {v n : Nat} (h : ¬ v < 2 ^ (8 * n)) : (((v : Int) / 2 ^ (8 * n)) != 0) = true := by
  have e : ((v : Int) / 2 ^ (8 * n)) = ((v / 2 ^ (8 * n) : Nat) : Int) := by simp
  have h2 : 0 < v / 2 ^ (8 * n) := Nat.div_pos (by omega) (Nat.two_pow_pos _)
  rw [e]
  simp
  omega

set_option maxRecDepth 1000000 in
set_option maxHeartbeats 400000 in
theorem fix_big (v n : Nat) (w : World) (h1 : 1 ≤ n) (h7 : n ≤ 7) (hb : ¬ v < 2 ^ (8 * n)) : Calls Tryd.prog 21 #[.int .i64 v, .int .i64 n] w fun e w' => e = .returned (.tuple #[.string ByteArray.empty, .int .i64 1]) ∧ w = w' := by
  have hs := shr_some hb
  clear hb
  go_enter Tryd.func21, Tryd.ntmps21
  go_wp2
  go_ret2
  exact ⟨rfl, rfl⟩

set_option maxRecDepth 1000000 in
set_option maxHeartbeats 400000 in
theorem fix_ok (v n : Nat) (w : World) (h1 : 1 ≤ n) (h7 : n ≤ 7) (hv : v ≤ 9223372036854775807) (hb : v < 2 ^ (8 * n)) :
    Calls Tryd.prog 21 #[.int .i64 v, .int .i64 n] w fun e w' => e = .returned (.tuple #[.string ⟨(leb n v).toArray⟩, .int .i64 0]) ∧ Below w.heap.size w w' := by
  obtain ⟨i0, hi, hz0, hz1, hz2⟩ := info_parts Tryd.infoU8
  have hs := shr_zero hb
  clear hb
  go_enter Tryd.func21, Tryd.ntmps21
  go_wp2_with (at_make; refine wpList_make_full _ rfl _ _ 29 rfl w.heap.size 5 i0 (.int .u8 0) 1 Tryd.underlying29 hi hz0 hz1 .i64 .i64 n n n rfl rfl rfl rfl (by rw [hz2]; omega) (by unfold maxLen; omega) (Nat.le_refl _) ?_; intro w1 hown hgrow)
  have hrow : w1.ownsRow w.heap.size 5 1 (.slice (some ⟨w.heap.size, 0, none⟩) n n) n ((byteCells (leb n v)).take 0 ++ List.replicate (n - 0) (.int .u8 0)) := by
    have e := toList_madeCells_one (.int .u8 0) n
    simp only [Nat.mul_one] at hown
    have e2 : (Value.int .u8 0).cells = #[Value.int .u8 0] := rfl
    rw [e2, e] at hown
    simpa using hown
  have hbl : Below w.heap.size w w1 := (Below.refl _ _).grown hgrow (Nat.le_refl _) (fun k hk => by cases hk)
  clear hown hgrow
  go_loopw [29] (fun i wr => ∃ k : Nat, k ≤ n ∧ i = .int .i64 k ∧ wr.ownsRow w.heap.size 5 1 (.slice (some ⟨w.heap.size, 0, none⟩) n n) n ((byteCells (leb n v)).take k ++ List.replicate (n - k) (.int .u8 0)) ∧ Below w.heap.size w wr) (fun i _ => n - (intOf i).toNat)
  case atStart => exact ⟨0, Nat.zero_le _, rfl, hrow, hbl⟩
  case round =>
    obtain ⟨k, hk, rfl, hr, hbr⟩ := hrel
    by_cases hlt : k < n
    · have hg := leb_get n v k hlt
      have ec : ((v / 2 ^ (8 * k) % 256 : Nat) : Int) = (v : Int) / 2 ^ (8 * k) % 256 := by simp
      have hbk : (byteCells (leb n v))[k]? = some (.int .u8 ((v : Int) / 2 ^ (8 * k) % 256)) := by
        rw [byteCells, List.getElem?_map, hg, ← ec]
        simp [toUInt8_toNat]
      have hbl' : (byteCells (leb n v)).length = n := by rw [byteCells_length, leb_length]
      have hc : wr.cell? ⟨w.heap.size, k, none⟩ = some (.int .u8 0) := by
        rw [hr.cellAt k (by omega), List.getElem?_append_right (by simp; omega)]
        have e1 : k - ((byteCells (leb n v)).take k).length = 0 := by simp; omega
        rw [e1, show n - k = (n - (k + 1)) + 1 by omega]
        rfl
      have hfz := hr.frozenAt k
      obtain ⟨hst, hgr⟩ := hr.stored k (.int .u8 ((v : Int) / 2 ^ (8 * k) % 256))
      rw [set_fill _ _ _ n k hlt hbl' hbk] at hst
      clear hg hbk hr ec hbl'
      go_wp2
      go_roundw
      case rel => exact ⟨k + 1, by omega, by go_num, hst, hbr.grown hgr hbr.size (fun j hj => by cases hj; exact Nat.le_refl _)⟩
      case measure => simp [intOf]; omega
    · have hkn : k = n := by omega
      have hx : Row wr w.heap.size (.slice (some ⟨w.heap.size, 0, none⟩) n n) (leb n v) := by
        unfold Row
        rw [leb_length]
        rw [hkn, List.take_of_length_le (by rw [byteCells_length, leb_length]; omega)] at hr
        simpa using hr
      have hstr := row_string hx
      clear hr hx
      go_wp2
      go_ret2
      exact ⟨rfl, hbr⟩

/-- What Fix tells, of any two ints. -/
def fixB (v n : Int) : List UInt8 := if 1 ≤ n ∧ n ≤ 7 ∧ 0 ≤ v ∧ v < 2 ^ (8 * n.toNat) then leb n.toNat v.toNat else []
def fixE (v n : Int) : Int := if 1 ≤ n ∧ n ≤ 7 ∧ 0 ≤ v ∧ v < 2 ^ (8 * n.toNat) then 0 else 1

theorem fix_any (v n : Int) (w : World) (hv : v ≤ 9223372036854775807) :
    Calls Tryd.prog 21 #[.int .i64 v, .int .i64 n] w fun e w' => e = .returned (.tuple #[.string ⟨(fixB v n).toArray⟩, .int .i64 (fixE v n)]) ∧ Below w.heap.size w w' := by
  unfold fixB fixE
  by_cases h : n < 1 ∨ 7 < n ∨ v < 0
  · rw [if_neg (by omega), if_neg (by omega)]
    refine (fix_bad1 v n w h).mono ?_
    rintro e w' ⟨rfl, rfl⟩
    exact ⟨rfl, Below.refl _ _⟩
  · obtain ⟨k, rfl⟩ : ∃ k : Nat, n = k := ⟨n.toNat, by omega⟩
    obtain ⟨u, rfl⟩ : ∃ u : Nat, v = u := ⟨v.toNat, by omega⟩
    simp only [Int.toNat_natCast]
    have ec : ((u : Int) < 2 ^ (8 * k)) ↔ u < 2 ^ (8 * k) := by
      rw [show ((2 : Int) ^ (8 * k)) = ((2 ^ (8 * k) : Nat) : Int) by simp]
      omega
    by_cases hb : u < 2 ^ (8 * k)
    · rw [if_pos ⟨by omega, by omega, by omega, ec.2 hb⟩, if_pos ⟨by omega, by omega, by omega, ec.2 hb⟩]
      exact fix_ok u k w (by omega) (by omega) (by omega) hb
    · rw [if_neg (fun h => hb (ec.1 h.2.2.2)), if_neg (fun h => hb (ec.1 h.2.2.2))]
      refine (fix_big u k w (by omega) (by omega) hb).mono ?_
      rintro e w' ⟨rfl, rfl⟩
      exact ⟨rfl, Below.refl _ _⟩
end Go.Proofs.YthcpjpebahiikaaDoor
