/-
  Bits of an int, below 0 too: masks. Walks: a page of one byte, with another one at a place. Walks: what stays of a write, sector by sector.
-/
import Derived.Test.YtmcfldcpmjdfbaaGreatDoorMg15
import Derived.Laws.BitsLemmas
namespace Go.Proofs.YtmcfldcpmjdfbaaGreatDoor
open Go.RowKit Go.Lib

theorem i64_mask (i : Nat) (hi : i ≤ 62) (x : Int) : bits .and .i64 x ((2 ^ i - 1 : Nat) : Int) = x % ((2 ^ i : Nat) : Int) := by
  have hm : 2 ^ i - 1 < 2 ^ 64 := Nat.lt_of_lt_of_le (Nat.sub_lt (Nat.two_pow_pos i) (by decide)) (Nat.pow_le_pow_right (by decide) (by omega))
  have hp : (2 : Nat) ^ i ≤ 2 ^ 62 := Nat.pow_le_pow_right (by decide) hi
  have hpos := Nat.two_pow_pos i
  have hx : 0 ≤ x % 18446744073709551616 := Int.emod_nonneg _ (by decide)
  obtain ⟨a, ha⟩ := Int.eq_ofNat_of_zero_le hx
  have e1 : (BitVec.ofInt 64 x).toNat = a := by
    rw [BitVec.toNat_ofInt]
    simp only [Nat.reducePow]
    have : ((18446744073709551616 : Nat) : Int) = 18446744073709551616 := rfl
    rw [this, ha]
    rfl
  have e2 : (BitVec.ofInt 64 ((2 ^ i - 1 : Nat) : Int)).toNat = 2 ^ i - 1 := by
    rw [BitVec.ofInt_natCast, BitVec.toNat_ofNat, Nat.mod_eq_of_lt hm]
  have e3 : x % ((2 ^ i : Nat) : Int) = ((a % 2 ^ i : Nat) : Int) := by
    rw [Int.natCast_emod, ← ha]
    rw [Int.emod_emod_of_dvd]
    have : (18446744073709551616 : Int) = ((2 ^ 64 : Nat) : Int) := rfl
    rw [this]
    exact_mod_cast Nat.pow_dvd_pow 2 (by omega : i ≤ 64)
  have e4 : a % 2 ^ i < 2 ^ i := Nat.mod_lt _ hpos
  rw [e3]
  have e0 : bits .and .i64 x ((2 ^ i - 1 : Nat) : Int) = IntKind.i64.wrap ((BitVec.ofInt 64 x &&& BitVec.ofInt 64 ((2 ^ i - 1 : Nat) : Int)).toNat : Int) := rfl
  rw [e0, BitVec.toNat_and, e1, e2, Nat.and_two_pow_sub_one_eq_mod]
  rw [IntKind.wrap_i64]
  generalize a % 2 ^ i = m at *
  have : (2 : Nat) ^ 62 = 4611686018427387904 := by decide
  omega

theorem i64_and255 (x : Int) : bits .and .i64 x 255 = x % 256 := i64_mask 8 (by omega) x
theorem i64_and1 (x : Int) : bits .and .i64 x 1 = x % 2 := i64_mask 1 (by omega) x
end Go.Proofs.YtmcfldcpmjdfbaaGreatDoor

namespace Go.Proofs.YtmcfldcpmjdfbaaGreatDoor
open Go.RowKit Go.Lib

theorem fill_get {α : Type} (n j : Nat) (x z : α) (h : j < n) : (List.replicate j x ++ List.replicate (n - j) z)[j]? = some z := by
  rw [List.getElem?_append_right (by simp), List.length_replicate, Nat.sub_self, List.getElem?_replicate, if_pos (by omega)]
theorem fill_set_one {α : Type} (n j : Nat) (x z : α) (h : j < n) : (List.replicate j x ++ List.replicate (n - j) z).set j x = List.replicate (j + 1) x ++ List.replicate (n - (j + 1)) z := by
  rw [List.set_append_right _ _ (by simp), List.length_replicate, Nat.sub_self, show n - j = (n - (j + 1)) + 1 by omega, List.replicate_succ, List.set_cons_zero, List.replicate_succ']
  simp
theorem u8_nat {n : Nat} (h : n < 256) : n.toUInt8.toNat = n := by
  show n % 256 = n
  exact Nat.mod_eq_of_lt h
theorem byteCells_fill (n b c m : Nat) (hb : b < 256) (hc : c < 256) : byteCells ((List.replicate n b.toUInt8).set m c.toUInt8) = (List.replicate n (Value.int .u8 (b : Int))).set m (Value.int .u8 (c : Int)) := by
  unfold byteCells
  rw [List.map_set, List.map_replicate, u8_nat hb, u8_nat hc]

/-- A page of the byte b, with b + 1 at place k. -/
def filled (b k : Nat) : List UInt8 := (List.replicate 256 b.toUInt8).set (k % 256) ((b + 1) % 256).toUInt8
theorem filled_length (b k : Nat) : (filled b k).length = 256 := by unfold filled; rw [List.length_set, List.length_replicate]

theorem filled_row {wr : World} {base b k c m : Nat} (hb : b < 256) (hc : (b + 1) % 256 = c) (hm : k % 256 = m)
    (hst : wr.ownsRow base 5 1 (.slice (some ⟨base, 0, none⟩) 256 256) 256 ((List.replicate 256 (Value.int .u8 (b : Int))).set m (Value.int .u8 (c : Int)))) :
    Row wr base (.slice (some ⟨base, 0, none⟩) 256 256) (filled b k) := by
  have hc2 : c < 256 := by omega
  unfold Row
  rw [filled_length]
  unfold filled
  rw [hc, hm, byteCells_fill _ _ _ _ hb hc2]
  exact hst

end Go.Proofs.YtmcfldcpmjdfbaaGreatDoor

namespace Go.Proofs.YtmcfldcpmjdfbaaGreatDoor
open Go.RowKit Go.Lib

/-- Sector i of a page. -/
def sector (i : Nat) (l : List UInt8) : List UInt8 := (l.drop (32 * i)).take 32
/-- Does keep bear bit i? -/
def kept (keep : Int) (i : Nat) : Bool := decide (keep / 2 ^ i % 2 = 1)
/-- The first k sectors, those of data whose bits keep bears, else those of old. -/
def mixK (old data : List UInt8) (keep : Int) : Nat → List UInt8
  | 0 => []
  | k + 1 => mixK old data keep k ++ sector k (if kept keep k then data else old)
/-- A page of which sectors of data stay. -/
def mixL (old data : List UInt8) (keep : Int) : List UInt8 := mixK old data keep 8

theorem sector_length {i : Nat} {l : List UInt8} (h : l.length = 256) (hi : i < 8) : (sector i l).length = 32 := by
  unfold sector
  rw [List.length_take, List.length_drop, h]
  omega
theorem mixK_length {old data : List UInt8} {keep : Int} (h1 : old.length = 256) (h2 : data.length = 256) : ∀ k, k ≤ 8 → (mixK old data keep k).length = 32 * k
  | 0, _ => rfl
  | k + 1, hk => by
    unfold mixK
    rw [List.length_append, mixK_length h1 h2 k (by omega), sector_length (by split <;> assumption) (by omega)]
    omega
theorem mixL_length {old data : List UInt8} {keep : Int} (h1 : old.length = 256) (h2 : data.length = 256) : (mixL old data keep).length = 256 := mixK_length h1 h2 8 (by omega)
/-- A sector of what was mixed. -/
theorem mixK_sector {old data : List UInt8} {keep : Int} (h1 : old.length = 256) (h2 : data.length = 256) (i : Nat) : ∀ k, k ≤ 8 → i < k → sector i (mixK old data keep k) = sector i (if kept keep i then data else old)
  | 0, _, h => absurd h (by omega)
  | k + 1, hk, h => by
    unfold mixK
    have hl := mixK_length (keep := keep) h1 h2 k (by omega)
    by_cases hik : i < k
    · rw [← mixK_sector h1 h2 i k (by omega) hik]
      unfold sector
      rw [List.drop_append_of_le_length (by omega), List.take_append_of_le_length (by rw [List.length_drop]; omega)]
    · obtain rfl : i = k := by omega
      have hs : (sector i (if kept keep i then data else old)).length = 32 := sector_length (by split <;> assumption) (by omega)
      generalize sector i (if kept keep i then data else old) = S at *
      unfold sector
      rw [List.drop_append, List.drop_eq_nil_of_le (by omega), hl, Nat.sub_self, List.drop_zero, List.nil_append, List.take_of_length_le (by omega)]
theorem mixL_sector {old data : List UInt8} {keep : Int} (h1 : old.length = 256) (h2 : data.length = 256) {i : Nat} (hi : i < 8) : sector i (mixL old data keep) = sector i (if kept keep i then data else old) := mixK_sector h1 h2 i 8 (by omega) hi

theorem kept_full {keep : Int} (h : keep % 256 = 255) : ∀ i, i < 8 → kept keep i = true := by
  intro i hi
  unfold kept
  rcases i with _ | _ | _ | _ | _ | _ | _ | _ | i
  all_goals first | (simp; omega) | omega
theorem mixL_full {old data : List UInt8} {keep : Int} (h2 : data.length = 256) (h : keep % 256 = 255) : mixL old data keep = data := by
  have key : ∀ k, k ≤ 8 → mixK old data keep k = data.take (32 * k) := by
    intro k
    induction k with
    | zero => intro _; rfl
    | succ k ih =>
      intro hk
      unfold mixK
      rw [ih (by omega), kept_full h k (by omega), if_pos rfl]
      unfold sector
      rw [← List.take_add]
      rfl
  unfold mixL
  rw [key 8 (by omega), List.take_of_length_le (by omega)]

theorem sector_extract (X : ByteArray) (k : Nat) : (X.extract (k * 32) ((k + 1) * 32)).data.toList = sector k X.data.toList := by
  unfold sector
  simp only [ByteArray.data_extract, Array.toList_extract, List.extract_eq_take_drop]
  rw [show (k + 1) * 32 - k * 32 = 32 by omega, Nat.mul_comm]

set_option maxRecDepth 1000000 in
set_option maxHeartbeats 400000 in
theorem mixed_full (old data : ByteArray) (keep : Int) (w : World) (h2 : data.data.toList.length = 256) (h : keep % 256 = 255) :
    Calls Tryz.prog 80 #[.string old, .string data, .int .i64 keep] w fun e w' => e = .returned (.string ⟨(mixL old.data.toList data.data.toList keep).toArray⟩) ∧ w = w' := by
  have hand := i64_and255 keep
  rw [h] at hand
  have hm := mixL_full (old := old.data.toList) h2 h
  have HM := Lib.hid hm
  clear hm h
  go_enter Tryz.func80, Tryz.ntmps80
  go_wp2
  go_ret
  exact ⟨ret_str (by rw [HM.out]), rfl⟩

set_option maxRecDepth 1000000 in
set_option maxHeartbeats 400000 in
theorem mixed_part (old data : ByteArray) (keep : Int) (w : World) (hk : IsInt keep) (h1 : old.size = 256) (h2 : data.size = 256) (h : keep % 256 ≠ 255) :
    Calls Tryz.prog 80 #[.string old, .string data, .int .i64 keep] w fun e w' => e = .returned (.string ⟨(mixL old.data.toList data.data.toList keep).toArray⟩) ∧ Below w.heap.size w w' := by
  obtain ⟨i0, hi, hz0, hz1, hz2⟩ := info_parts Tryz.infoU8
  have hand := i64_and255 keep
  have hne : (keep % 256 == 255) = false := by simpa using h
  have hlo : -9223372036854775808 ≤ keep := hk.1
  have hhi : keep ≤ 9223372036854775807 := hk.2
  have H1 := Lib.hid h1
  have H2 := Lib.hid h2
  clear h hk h1 h2
  go_enter Tryz.func80, Tryz.ntmps80
  go_wp2_with (at_make; refine wpList_make_own _ rfl _ _ 99 rfl w.heap.size 5 i0 (.int .u8 0) 1 Tryz.underlying99 hi hz0 hz1 .i64 .i64 256 256 rfl rfl rfl (by rw [hz2]; omega) (by unfold maxLen; omega) (Nat.le_refl _) ?_; intro w1 hown hgrow)
  have hr0 : Row w1 w.heap.size (.slice (some ⟨w.heap.size, 0, none⟩) 0 256) (mixK old.data.toList data.data.toList keep 0) := hown
  have hbl : Below w.heap.size w w1 := (Below.refl _ _).grown hgrow (Nat.le_refl _) (fun k hk => by cases hk)
  clear hown hgrow
  go_loopw [7, 15] (fun b i wr => ∃ k : Nat, k ≤ 8 ∧ i = .int .i64 k ∧ Row wr w.heap.size b (mixK old.data.toList data.data.toList keep k) ∧ Below w.heap.size w wr) (fun _ i _ => 8 - (intOf i).toNat)
  case atStart => exact ⟨0, Nat.zero_le _, rfl, hr0, hbl⟩
  case round =>
    clear hr0 hbl
    obtain ⟨k, hk, rfl, hr, hbr⟩ := hrel
    by_cases hlt : k < 8
    · have hlt' : (k : Int) < 8 := by omega
      have ho : 256 ≤ old.size := by rw [H1.out]; omega
      have hd : 256 ≤ data.size := by rw [H2.out]; omega
      have hlen := mixK_length (keep := keep) (old := old.data.toList) (data := data.data.toList) (by rw [← H1.out]; rfl) (by rw [← H2.out]; rfl) k hk
      have hml : (mixK old.data.toList data.data.toList keep k).length ≤ 35184372088832 := by omega
      have hnext : ∀ X : ByteArray, X.size = 256 → X.data.toList = (if kept keep k then data.data.toList else old.data.toList) → mixK old.data.toList data.data.toList keep k ++ (X.extract (k * 32) ((k + 1) * 32)).data.toList = mixK old.data.toList data.data.toList keep (k + 1) := by
        intro X hX e
        show _ = _ ++ _
        rw [← e, sector_extract X k]
      by_cases hkp : kept keep k = true
      · have hb : bits BinOp.and IntKind.i64 (keep / 2 ^ k) 1 = 1 := by rw [i64_and1]; simpa [kept] using hkp
        have HN := Lib.hid (hnext data H2.out (by rw [if_pos hkp]))
        clear hnext hlen hkp
        go_wp2_with (at_builtin; refine append_str rfl _ _ rfl w.heap.size wr u7 (mixK old.data.toList data.data.toList keep k) rfl hr (data.extract (k * 32) ((k + 1) * 32)) rfl hml (by simp; omega) hbr.size ?_; intro v1 w2 hr2 hb2)
        rw [HN.out] at hr2
        go_roundw
        case rel => exact ⟨k + 1, by omega, by go_num, hr2, hbr.trans hb2⟩
        case measure => simp [intOf]; omega
      · have hb : bits BinOp.and IntKind.i64 (keep / 2 ^ k) 1 = 0 := by
          rw [i64_and1]
          have : ¬ keep / 2 ^ k % 2 = 1 := by simpa [kept] using hkp
          omega
        have HN := Lib.hid (hnext old H1.out (by rw [if_neg hkp]))
        clear hnext hlen hkp
        go_wp2_with (at_builtin; refine append_str rfl _ _ rfl w.heap.size wr u7 (mixK old.data.toList data.data.toList keep k) rfl hr (old.extract (k * 32) ((k + 1) * 32)) rfl hml (by simp; omega) hbr.size ?_; intro v1 w2 hr2 hb2)
        rw [HN.out] at hr2
        go_roundw
        case rel => exact ⟨k + 1, by omega, by go_num, hr2, hbr.trans hb2⟩
        case measure => simp [intOf]; omega
    · obtain rfl : k = 8 := by omega
      have hstr := row_string hr
      have HB := Lib.hid hbr
      clear hr hbr
      go_wp2
      go_ret
      exact ⟨rfl, HB.out⟩

theorem mixed_any (old data : ByteArray) (keep : Int) (w : World) (hk : IsInt keep) (h1 : old.size = 256) (h2 : data.size = 256) :
    Calls Tryz.prog 80 #[.string old, .string data, .int .i64 keep] w fun e w' => e = .returned (.string ⟨(mixL old.data.toList data.data.toList keep).toArray⟩) ∧ Below w.heap.size w w' := by
  by_cases h : keep % 256 = 255
  · refine (mixed_full old data keep w (by rw [← h2]; rfl) h).mono ?_
    rintro e w' ⟨rfl, rfl⟩
    exact ⟨rfl, Below.refl _ _⟩
  · exact mixed_part old data keep w hk h1 h2 h
end Go.Proofs.YtmcfldcpmjdfbaaGreatDoor
