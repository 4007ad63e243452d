/-
  Bits of an int, below 0 too: masks. Walks: a page of one byte, with another one at a place. Walks: what stays of a write, sector by sector.
-/
import Derived.Test.YthcpjpebahiikaaDoorMg3
import Derived.Laws.BitsLemmas
namespace Go.Proofs.YthcpjpebahiikaaDoor
open Go.RowKit Go.Lib

theorem i64_mask (i : Nat) (hi : i ≤ 62) (x : Int) : bits .and .i64 x ((2 ^ i - 1 : Nat) : Int) = x % ((2 ^ i : Nat) : Int) := by
  have hm : 2 ^ i - 1 < 2 ^ 64 := Nat.lt_of_lt_of_le (Nat.sub_lt (Nat.two_pow_pos i) (by decide)) (Nat.pow_le_pow_right (by decide) (by omega))
  have hp : (2 : Nat) ^ i ≤ 2 ^ 62 := Nat.pow_le_pow_right (by decide) hi
  have hpos := Nat.two_pow_pos i
  have hx : 0 ≤ x % 18446744073709551616 := Int.emod_nonneg _ (by decide)
  obtain ⟨a, ha⟩ := Int.eq_ofNat_of_zero_le hx
  have e1 : (BitVec.ofInt 64 x).toNat = a := by
    rw [BitVec.toNat_ofInt]
    simp only [Nat.reducePow]
    have : ((18446744073709551616 : Nat) : Int) = 18446744073709551616 := rfl
    rw [this, ha]
    rfl
  have e2 : (BitVec.ofInt 64 ((2 ^ i - 1 : Nat) : Int)).toNat = 2 ^ i - 1 := by
    rw [BitVec.ofInt_natCast, BitVec.toNat_ofNat, Nat.mod_eq_of_lt hm]
  have e3 : x % ((2 ^ i : Nat) : Int) = ((a % 2 ^ i : Nat) : Int) := by
    rw [Int.natCast_emod, ← ha]
    rw [Int.emod_emod_of_dvd]
    have : (18446744073709551616 : Int) = ((2 ^ 64 : Nat) : Int) := rfl
    rw [this]
    exact_mod_cast Nat.pow_dvd_pow 2 (by omega : i ≤ 64)
  have e4 : a % 2 ^ i < 2 ^ i := Nat.mod_lt _ hpos
  rw [e3]
  have e0 : bits .and .i64 x ((2 ^ i - 1 : Nat) : Int) = IntKind.i64.wrap ((BitVec.ofInt 64 x &&& BitVec.ofInt 64 ((2 ^ i - 1 : Nat) : Int)).toNat : Int) := rfl
  rw [e0, BitVec.toNat_and, e1, e2, Nat.and_two_pow_sub_one_eq_mod]
  rw [IntKind.wrap_i64]
  generalize a % 2 ^ i = m at *
  have : (2 : Nat) ^ 62 = 4611686018427387904 := by decide
  omega

theorem i64_and255 (x : Int) : bits .and .i64 x 255 = x % 256 := i64_mask 8 (by omega) x
theorem i64_and1 (x : Int) : bits .and .i64 x 1 = x % 2 := i64_mask 1 (by omega) x
end Go.Proofs.YthcpjpebahiikaaDoor

namespace Go.Proofs.YthcpjpebahiikaaDoor
open Go.RowKit Go.Lib

theorem fill_get {α : Type} (n j : Nat) (x z : α) (h : j < n) : (List.replicate j x ++ List.replicate (n - j) z)[j]? = some z := by
  rw [List.getElem?_append_right (by simp), List.length_replicate, Nat.sub_self, List.getElem?_replicate, if_pos (by omega)]
theorem fill_set_one {α : Type} (n j : Nat) (x z : α) (h : j < n) : (List.replicate j x ++ List.replicate (n - j) z).set j x = List.replicate (j + 1) x ++ List.replicate (n - (j + 1)) z := by
  rw [List.set_append_right _ _ (by simp), List.length_replicate, Nat.sub_self, show n - j = (n - (j + 1)) + 1 by omega, List.replicate_succ, List.set_cons_zero, List.replicate_succ']
  simp
theorem u8_nat {n : Nat} (h : n < 256) : n.toUInt8.toNat = n := by
  show n % 256 = n
  exact Nat.mod_eq_of_lt h
theorem byteCells_fill (n b c m : Nat) (hb : b < 256) (hc : c < 256) : byteCells ((List.replicate n b.toUInt8).set m c.toUInt8) = (List.replicate n (Value.int .u8 (b : Int))).set m (Value.int .u8 (c : Int)) := by
  unfold byteCells
  rw [List.map_set, List.map_replicate, u8_nat hb, u8_nat hc]

/-- A page of the byte b, with b + 1 at place k. -/
def filled (b k : Nat) : List UInt8 := (List.replicate 256 b.toUInt8).set (k % 256) ((b + 1) % 256).toUInt8
theorem filled_length (b k : Nat) : (filled b k).length = 256 := by unfold filled; rw [List.length_set, List.length_replicate]

theorem filled_row {wr : World} {base b k c m : Nat} (hb : b < 256) (hc : (b + 1) % 256 = c) (hm : k % 256 = m)
    (hst : wr.ownsRow base 5 1 (.slice (some ⟨base, 0, none⟩) 256 256) 256 ((List.replicate 256 (Value.int .u8 (b : Int))).set m (Value.int .u8 (c : Int)))) :
    Row wr base (.slice (some ⟨base, 0, none⟩) 256 256) (filled b k) := by
  have hc2 : c < 256 := by omega
  unfold Row
  rw [filled_length]
  unfold filled
  rw [hc, hm, byteCells_fill _ _ _ _ hb hc2]
  exact hst

set_option maxRecDepth 1000000 in
set_option maxHeartbeats 400000 in
theorem filled_any (b k : Nat) (w : World) (hb : b < 256) :
    Calls Tryd.prog 20 #[.int .u8 b, .int .i64 k] w fun e w' => e = .returned (.string ⟨(filled b k).toArray⟩) ∧ Below w.heap.size w w' := by
  obtain ⟨i0, hi, hz0, hz1, hz2⟩ := info_parts Tryd.infoU8
  obtain ⟨c, hc⟩ : ∃ c, (b + 1) % 256 = c := ⟨_, rfl⟩
  obtain ⟨m, hm⟩ : ∃ m, k % 256 = m := ⟨_, rfl⟩
  have hml : m < 256 := by omega
  have hand : bits .and .i64 (k : Int) 255 = (m : Int) := by rw [i64_and255]; omega
  have hb1 : ((b : Int) + 1) % 256 = (c : Int) := by omega
  have HC := Lib.hid hc
  have HM := Lib.hid hm
  clear hc hm
  go_enter Tryd.func20, Tryd.ntmps20
  go_wp2_with (at_make; refine wpList_make_full _ rfl _ _ 29 rfl w.heap.size 5 i0 (.int .u8 0) 1 Tryd.underlying29 hi hz0 hz1 .i64 .i64 256 256 256 rfl rfl rfl rfl (by rw [hz2]; omega) (by unfold maxLen; omega) (Nat.le_refl _) ?_; intro w1 hown hgrow)
  have hrow : w1.ownsRow w.heap.size 5 1 (.slice (some ⟨w.heap.size, 0, none⟩) 256 256) 256 (List.replicate 0 (Value.int .u8 (b : Int)) ++ List.replicate (256 - 0) (Value.int .u8 0)) := by
    have e := toList_madeCells_one (.int .u8 0) 256
    have e2 : (Value.int .u8 0).cells = #[Value.int .u8 0] := rfl
    rw [e2, Nat.mul_one, e] at hown
    exact hown
  have hbl : Below w.heap.size w w1 := (Below.refl _ _).grown hgrow (Nat.le_refl _) (fun k hk => by cases hk)
  clear hown hgrow
  go_loopw [6] (fun i wr => ∃ j : Nat, j ≤ 256 ∧ i = .int .i64 j ∧ wr.ownsRow w.heap.size 5 1 (.slice (some ⟨w.heap.size, 0, none⟩) 256 256) 256 (List.replicate j (Value.int .u8 (b : Int)) ++ List.replicate (256 - j) (Value.int .u8 0)) ∧ Below w.heap.size w wr) (fun i _ => 256 - (intOf i).toNat)
  case atStart => exact ⟨0, Nat.zero_le _, rfl, hrow, hbl⟩
  case round =>
    clear hrow hbl
    obtain ⟨j, hj, rfl, hr, hbr⟩ := hrel
    by_cases hlt : j < 256
    · have hcl : wr.cell? ⟨w.heap.size, j, none⟩ = some (.int .u8 0) := by
        rw [hr.cellAt j (by omega)]
        exact fill_get 256 j _ _ hlt
      have hfz := hr.frozenAt j
      obtain ⟨hst, hgr⟩ := hr.stored j (.int .u8 (b : Int))
      rw [fill_set_one 256 j _ _ hlt] at hst
      have HST := Lib.hid hst
      clear hr hst
      go_wp2
      go_roundw
      case rel => exact ⟨j + 1, by omega, by go_num, HST.out, hbr.grown hgr hbr.size (fun j hj => by cases hj; exact Nat.le_refl _)⟩
      case measure => simp [intOf]; omega
    · obtain rfl : j = 256 := by omega
      have hr2 : wr.ownsRow w.heap.size 5 1 (.slice (some ⟨w.heap.size, 0, none⟩) 256 256) 256 (List.replicate 256 (Value.int .u8 (b : Int))) := by
        rw [Nat.sub_self, List.replicate_zero, List.append_nil] at hr
        exact hr
      have hcl : wr.cell? ⟨w.heap.size, m, none⟩ = some (.int .u8 (b : Int)) := by
        rw [hr2.cellAt m (by omega), List.getElem?_replicate, if_pos hml]
      have hfz := hr2.frozenAt m
      obtain ⟨hst, hgr⟩ := hr2.stored m (.int .u8 (c : Int))
      have hstr := row_string (filled_row hb HC.out HM.out hst)
      have HB := Lib.hid (hbr.grown hgr hbr.size (fun j hj => by cases hj; exact Nat.le_refl _))
      clear hst hgr hr hr2 hbr hj hlt
      go_wp2
      go_ret
      exact ⟨rfl, HB.out⟩
end Go.Proofs.YthcpjpebahiikaaDoor

namespace Go.Proofs.YthcpjpebahiikaaDoor
open Go.RowKit Go.Lib

/-- Does keep bear bit i? -/
def kept (keep : Int) (i : Nat) : Bool := decide (keep / 2 ^ i % 2 = 1)






end Go.Proofs.YthcpjpebahiikaaDoor
