/-
  Walks: a page of one byte, with another one at a place. Walks: what stays of a write, sector by sector.
-/
import Derived.Test.YthcpjpebahiikaaDoorMg13
namespace Go.Proofs.YthcpjpebahiikaaDoor
open Go.RowKit Go.Lib

theorem fill_get {α : Type} (n j : Nat) (x z : α) (h : j < n) : (List.replicate j x ++ List.replicate (n - j) z)[j]? = some z := by
  rw [List.getElem?_append_right (by simp), List.length_replicate, Nat.sub_self, List.getElem?_replicate, if_pos (by omega)]
theorem fill_set_one {α : Type} (n j : Nat) (x z : α) (h : j < n) : (List.replicate j x ++ List.replicate (n - j) z).set j x = List.replicate (j + 1) x ++ List.replicate (n - (j + 1)) z := by
  rw [List.set_append_right _ _ (by simp), List.length_replicate, Nat.sub_self, show n - j = (n - (j + 1)) + 1 by omega, List.replicate_succ, List.set_cons_zero, List.replicate_succ']
  simp
theorem u8_nat {n : Nat} (h : n < 256) : n.toUInt8.toNat = n := by
  show n % 256 = n
  exact Nat.mod_eq_of_lt h
theorem byteCells_fill (n b c m : Nat) (hb : b < 256) (hc : c < 256) : byteCells ((List.replicate n b.toUInt8).set m c.toUInt8) = (List.replicate n (Value.int .u8 (b : Int))).set m (Value.int .u8 (c : Int)) := by
  unfold byteCells
  rw [List.map_set, List.map_replicate, u8_nat hb, u8_nat hc]

/-- A page of the byte b, with b + 1 at place k. -/
def filled (b k : Nat) : List UInt8 := (List.replicate 256 b.toUInt8).set (k % 256) ((b + 1) % 256).toUInt8
theorem filled_length (b k : Nat) : (filled b k).length = 256 := by unfold filled; rw [List.length_set, List.length_replicate]

theorem filled_row {wr : World} {base b k c m : Nat} (hb : b < 256) (hc : (b + 1) % 256 = c) (hm : k % 256 = m)
    (hst : wr.ownsRow base 5 1 (.slice (some ⟨base, 0, none⟩) 256 256) 256 ((List.replicate 256 (Value.int .u8 (b : Int))).set m (Value.int .u8 (c : Int)))) :
    Row wr base (.slice (some ⟨base, 0, none⟩) 256 256) (filled b k) := by
  have hc2 : c < 256 := by omega
  unfold Row
  rw [filled_length]
  unfold filled
  rw [hc, hm, byteCells_fill _ _ _ _ hb hc2]
  exact hst

set_option maxRecDepth 1000000 in
set_option maxHeartbeats 400000 in
theorem filled_any (b k : Nat) (w : World) (hb : b < 256) :
    Calls Tryd.prog 20 #[.int .u8 b, .int .i64 k] w fun e w' => e = .returned (.string ⟨(filled b k).toArray⟩) ∧ Below w.heap.size w w' := by
  obtain ⟨i0, hi, hz0, hz1, hz2⟩ := info_parts Tryd.infoU8
  obtain ⟨c, hc⟩ : ∃ c, (b + 1) % 256 = c := ⟨_, rfl⟩
  obtain ⟨m, hm⟩ : ∃ m, k % 256 = m := ⟨_, rfl⟩
  have hml : m < 256 := by omega
  have hand : bits .and .i64 (k : Int) 255 = (m : Int) := by rw [i64_and255]; omega
  have hb1 : ((b : Int) + 1) % 256 = (c : Int) := by omega
  have HC := Lib.hid hc
  have HM := Lib.hid hm
  clear hc hm
  go_enter Tryd.func20, Tryd.ntmps20
  go_wp2_with (at_make; refine wpList_make_full _ rfl _ _ 29 rfl w.heap.size 5 i0 (.int .u8 0) 1 Tryd.underlying29 hi hz0 hz1 .i64 .i64 256 256 256 rfl rfl rfl rfl (by rw [hz2]; omega) (by unfold maxLen; omega) (Nat.le_refl _) ?_; intro w1 hown hgrow)
  have hrow : w1.ownsRow w.heap.size 5 1 (.slice (some ⟨w.heap.size, 0, none⟩) 256 256) 256 (List.replicate 0 (Value.int .u8 (b : Int)) ++ List.replicate (256 - 0) (Value.int .u8 0)) := by
    have e := toList_madeCells_one (.int .u8 0) 256
    have e2 : (Value.int .u8 0).cells = #[Value.int .u8 0] := rfl
    rw [e2, Nat.mul_one, e] at hown
    exact hown
  have hbl : Below w.heap.size w w1 := (Below.refl _ _).grown hgrow (Nat.le_refl _) (fun k hk => by cases hk)
  clear hown hgrow
  go_loopw [6] (fun i wr => ∃ j : Nat, j ≤ 256 ∧ i = .int .i64 j ∧ wr.ownsRow w.heap.size 5 1 (.slice (some ⟨w.heap.size, 0, none⟩) 256 256) 256 (List.replicate j (Value.int .u8 (b : Int)) ++ List.replicate (256 - j) (Value.int .u8 0)) ∧ Below w.heap.size w wr) (fun i _ => 256 - (intOf i).toNat)
  case atStart => exact ⟨0, Nat.zero_le _, rfl, hrow, hbl⟩
  case round =>
    clear hrow hbl
    obtain ⟨j, hj, rfl, hr, hbr⟩ := hrel
    by_cases hlt : j < 256
    · have hcl : wr.cell? ⟨w.heap.size, j, none⟩ = some (.int .u8 0) := by
        rw [hr.cellAt j (by omega)]
        exact fill_get 256 j _ _ hlt
      have hfz := hr.frozenAt j
      obtain ⟨hst, hgr⟩ := hr.stored j (.int .u8 (b : Int))
      rw [fill_set_one 256 j _ _ hlt] at hst
      have HST := Lib.hid hst
      clear hr hst
      go_wp2
      go_roundw
      case rel => exact ⟨j + 1, by omega, by go_num, HST.out, hbr.grown hgr hbr.size (fun j hj => by cases hj; exact Nat.le_refl _)⟩
      case measure => simp [intOf]; omega
    · obtain rfl : j = 256 := by omega
      have hr2 : wr.ownsRow w.heap.size 5 1 (.slice (some ⟨w.heap.size, 0, none⟩) 256 256) 256 (List.replicate 256 (Value.int .u8 (b : Int))) := by
        rw [Nat.sub_self, List.replicate_zero, List.append_nil] at hr
        exact hr
      have hcl : wr.cell? ⟨w.heap.size, m, none⟩ = some (.int .u8 (b : Int)) := by
        rw [hr2.cellAt m (by omega), List.getElem?_replicate, if_pos hml]
      have hfz := hr2.frozenAt m
      obtain ⟨hst, hgr⟩ := hr2.stored m (.int .u8 (c : Int))
      have hstr := row_string (filled_row hb HC.out HM.out hst)
      have HB := Lib.hid (hbr.grown hgr hbr.size (fun j hj => by cases hj; exact Nat.le_refl _))
      clear hst hgr hr hr2 hbr hj hlt
      go_wp2
      go_ret
      exact ⟨rfl, HB.out⟩
end Go.Proofs.YthcpjpebahiikaaDoor

namespace Go.Proofs.YthcpjpebahiikaaDoor
open Go.RowKit Go.Lib

/-- Sector i of a page. -/
def sector (i : Nat) (l : List UInt8) : List UInt8 := (l.drop (32 * i)).take 32
/-- Does keep bear bit i? -/
def kept (keep : Int) (i : Nat) : Bool := decide (keep / 2 ^ i % 2 = 1)
/-- The first k sectors, those of data whose bits keep bears, else those of old. -/
def mixK (old data : List UInt8) (keep : Int) : Nat → List UInt8
  | 0 => []
  | k + 1 => mixK old data keep k ++ sector k (if kept keep k then data else old)
/-- A page of which sectors of data stay. -/
def mixL (old data : List UInt8) (keep : Int) : List UInt8 := mixK old data keep 8

theorem sector_length {i : Nat} {l : List UInt8} (h : l.length = 256) (hi : i < 8) : (sector i l).length = 32 := by
  unfold sector
  rw [List.length_take, List.length_drop, h]
  omega
theorem mixK_length {old data : List UInt8} {keep : Int} (h1 : old.length = 256) (h2 : data.length = 256) : ∀ k, k ≤ 8 → (mixK old data keep k).length = 32 * k
  | 0, _ => rfl
  | k + 1, hk => by
    unfold mixK
    rw [List.length_append, mixK_length h1 h2 k (by omega), sector_length (by split <;> assumption) (by omega)]
    omega
theorem mixL_length {old data : List UInt8} {keep : Int} (h1 : old.length = 256) (h2 : data.length = 256) : (mixL old data keep).length = 256 := mixK_length h1 h2 8 (by omega)
/-- A sector of what was mixed. -/
theorem mixK_sector {old data : List UInt8} {keep : Int} (h1 : old.length = 256) (h2 : data.length = 256) (i : Nat) : ∀ k, k ≤ 8 → i < k → sector i (mixK old data keep k) = sector i (if kept keep i then data else old)
  | 0, _, h => absurd h (by omega)
  | k + 1, hk, h => by
    unfold mixK
    have hl := mixK_length (keep := keep) h1 h2 k (by omega)
    by_cases hik : i < k
    · rw [← mixK_sector h1 h2 i k (by omega) hik]
      unfold sector
      rw [List.drop_append_of_le_length (by omega), List.take_append_of_le_length (by rw [List.length_drop]; omega)]
    · obtain rfl : i = k := by omega
      have hs : (sector i (if kept keep i then data else old)).length = 32 := sector_length (by split <;> assumption) (by omega)
      generalize sector i (if kept keep i then data else old) = S at *
      unfold sector
      rw [List.drop_append, List.drop_eq_nil_of_le (by omega), hl, Nat.sub_self, List.drop_zero, List.nil_append, List.take_of_length_le (by omega)]
theorem mixL_sector {old data : List UInt8} {keep : Int} (h1 : old.length = 256) (h2 : data.length = 256) {i : Nat} (hi : i < 8) : sector i (mixL old data keep) = sector i (if kept keep i then data else old) := mixK_sector h1 h2 i 8 (by omega) hi

theorem kept_full {keep : Int} (h : keep % 256 = 255) : ∀ i, i < 8 → kept keep i = true := by
  intro i hi
  unfold kept
  rcases i with _ | _ | _ | _ | _ | _ | _ | _ | i
  all_goals first | (simp; omega) | omega
theorem mixL_full {old data : List UInt8} {keep : Int} (h2 : data.length = 256) (h : keep % 256 = 255) : mixL old data keep = data := by
  have key : ∀ k, k ≤ 8 → mixK old data keep k = data.take (32 * k) := by
    intro k
    induction k with
    | zero => intro _; rfl
    | succ k ih =>
      intro hk
      unfold mixK
      rw [ih (by omega), kept_full h k (by omega), if_pos rfl]
      unfold sector
      rw [← List.take_add]
      rfl
  unfold mixL
  rw [key 8 (by omega), List.take_of_length_le (by omega)]

theorem sector_extract (X : ByteArray) (k : Nat) : (X.extract (k * 32) ((k + 1) * 32)).data.toList = sector k X.data.toList := by
  unfold sector
  simp only [ByteArray.data_extract, Array.toList_extract, List.extract_eq_take_drop]
  rw [show (k + 1) * 32 - k * 32 = 32 by omega, Nat.mul_comm]



end Go.Proofs.YthcpjpebahiikaaDoor
