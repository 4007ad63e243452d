/-
  Walks over package num: Fix, Unfix. Walks over package num: the check sum. Plain mathematics: one byte that is changed changes the sum. A page's bytes, as lists: nothing of the program stands here.
-/
import Derived.Test.YtlignamakiiokaaGreatDoorMg13
import Derived.Lib.Varint
import Derived.Lib.VarintMem
import Derived.Lib.Zigzag
import Derived.Lib.VarintBits
import Derived.Laws.Bits64b
import Derived.Laws.BitsAllLaws
namespace Go.Proofs.YtlignamakiiokaaGreatDoor
open Go.RowKit Go.Lib

/-- A number in n bytes, the lowest first. -/
def leb : Nat → Nat → List UInt8
  | 0, _ => []
  | n + 1, v => (v % 256).toUInt8 :: leb n (v / 256)

theorem leb_length : ∀ (n v : Nat), (leb n v).length = n
  | 0, _ => rfl
  | n + 1, v => by rw [leb, List.length_cons, leb_length n]

set_option maxRecDepth 1000000 in
set_option maxHeartbeats 400000 in
theorem fix_bad1 (v n : Int) (w : World) (h : n < 1 ∨ 7 < n ∨ v < 0) : Calls Tryz.prog 167 #[.int .i64 v, .int .i64 n] w fun e w' => e = .returned (.tuple #[.string ByteArray.empty, .int .i64 1]) ∧ w = w' := by
  by_cases h1 : n < 1
  · go_enter Tryz.func167, Tryz.ntmps167
    go_wp2
    go_ret2
    exact ⟨rfl, rfl⟩
  · by_cases h2 : 7 < n
    · go_enter Tryz.func167, Tryz.ntmps167
      go_wp2
      go_ret2
      exact ⟨rfl, rfl⟩
    · have h3 : v < 0 := by omega
      go_enter Tryz.func167, Tryz.ntmps167
      go_wp2
      go_ret2
      exact ⟨rfl, rfl⟩

theorem leb_get : ∀ (n v k : Nat), k < n → (leb n v)[k]? = some ((v / 2 ^ (8 * k) % 256).toUInt8)
  | n + 1, v, 0, _ => by simp [leb]
  | n + 1, v, k + 1, h => by
    rw [leb, List.getElem?_cons_succ, leb_get n (v / 256) k (by omega), Nat.div_div_eq_div_mul, show 8 * (k + 1) = 8 + 8 * k by omega, Nat.pow_add]

theorem set_fill {α : Type} (B : List α) (z x : α) (n k : Nat) (hk : k < n) (hB : B.length = n) (hx : B[k]? = some x) :
    (B.take k ++ List.replicate (n - k) z).set k x = B.take (k + 1) ++ List.replicate (n - (k + 1)) z := by
  rw [List.set_append_right _ _ (by simp; omega)]
  have e1 : k - (B.take k).length = 0 := by simp; omega
  rw [e1, show n - k = (n - (k + 1)) + 1 by omega, List.replicate_succ, List.set_cons_zero, List.take_add_one, hx]
  simp

theorem shr_zero {v n : Nat} (h : v < 2 ^ (8 * n)) : (((v : Int) / 2 ^ (8 * n)) != 0) = false := by
  have e : ((v : Int) / 2 ^ (8 * n)) = ((v / 2 ^ (8 * n) : Nat) : Int) := by simp
  rw [e, Nat.div_eq_of_lt h]
  rfl
theorem shr_some {v n : Nat} (h : ¬ v < 2 ^ (8 * n)) : (((v : Int) / 2 ^ (8 * n)) != 0) = true := by
  have e : ((v : Int) / 2 ^ (8 * n)) = ((v / 2 ^ (8 * n) : Nat) : Int) := by simp
  have h2 : 0 < v / 2 ^ (8 * n) := Nat.div_pos (by omega) (Nat.two_pow_pos _)
  rw [e]
  simp
  omega

set_option maxRecDepth 1000000 in
set_option maxHeartbeats 400000 in
theorem fix_big (v n : Nat) (w : World) (h1 : 1 ≤ n) (h7 : n ≤ 7) (hb : ¬ v < 2 ^ (8 * n)) : Calls Tryz.prog 167 #[.int .i64 v, .int .i64 n] w fun e w' => e = .returned (.tuple #[.string ByteArray.empty, .int .i64 1]) ∧ w = w' := by
  have hs := shr_some hb
  clear hb
  go_enter Tryz.func167, Tryz.ntmps167
  go_wp2
  go_ret2
  exact ⟨rfl, rfl⟩

set_option maxRecDepth 1000000 in
set_option maxHeartbeats 400000 in
theorem fix_ok (v n : Nat) (w : World) (h1 : 1 ≤ n) (h7 : n ≤ 7) (hv : v ≤ 9223372036854775807) (hb : v < 2 ^ (8 * n)) :
    Calls Tryz.prog 167 #[.int .i64 v, .int .i64 n] w fun e w' => e = .returned (.tuple #[.string ⟨(leb n v).toArray⟩, .int .i64 0]) ∧ Below w.heap.size w w' := by
  obtain ⟨i0, hi, hz0, hz1, hz2⟩ := info_parts Tryz.infoU8
  have hs := shr_zero hb
  clear hb
  go_enter Tryz.func167, Tryz.ntmps167
  go_wp2_with (at_make; refine wpList_make_full _ rfl _ _ 85 rfl w.heap.size 5 i0 (.int .u8 0) 1 Tryz.underlying85 hi hz0 hz1 .i64 .i64 n n n rfl rfl rfl rfl (by rw [hz2]; omega) (by unfold maxLen; omega) (Nat.le_refl _) ?_; intro w1 hown hgrow)
  have hrow : w1.ownsRow w.heap.size 5 1 (.slice (some ⟨w.heap.size, 0, none⟩) n n) n ((byteCells (leb n v)).take 0 ++ List.replicate (n - 0) (.int .u8 0)) := by
    have e := toList_madeCells_one (.int .u8 0) n
    simp only [Nat.mul_one] at hown
    have e2 : (Value.int .u8 0).cells = #[Value.int .u8 0] := rfl
    rw [e2, e] at hown
    simpa using hown
  have hbl : Below w.heap.size w w1 := (Below.refl _ _).grown hgrow (Nat.le_refl _) (fun k hk => by cases hk)
  clear hown hgrow
  go_loopw [29] (fun i wr => ∃ k : Nat, k ≤ n ∧ i = .int .i64 k ∧ wr.ownsRow w.heap.size 5 1 (.slice (some ⟨w.heap.size, 0, none⟩) n n) n ((byteCells (leb n v)).take k ++ List.replicate (n - k) (.int .u8 0)) ∧ Below w.heap.size w wr) (fun i _ => n - (intOf i).toNat)
  case atStart => exact ⟨0, Nat.zero_le _, rfl, hrow, hbl⟩
  case round =>
    obtain ⟨k, hk, rfl, hr, hbr⟩ := hrel
    by_cases hlt : k < n
    · have hg := leb_get n v k hlt
      have ec : ((v / 2 ^ (8 * k) % 256 : Nat) : Int) = (v : Int) / 2 ^ (8 * k) % 256 := by simp
      have hbk : (byteCells (leb n v))[k]? = some (.int .u8 ((v : Int) / 2 ^ (8 * k) % 256)) := by
        rw [byteCells, List.getElem?_map, hg, ← ec]
        simp [toUInt8_toNat]
      have hbl' : (byteCells (leb n v)).length = n := by rw [byteCells_length, leb_length]
      have hc : wr.cell? ⟨w.heap.size, k, none⟩ = some (.int .u8 0) := by
        rw [hr.cellAt k (by omega), List.getElem?_append_right (by simp; omega)]
        have e1 : k - ((byteCells (leb n v)).take k).length = 0 := by simp; omega
        rw [e1, show n - k = (n - (k + 1)) + 1 by omega]
        rfl
      have hfz := hr.frozenAt k
      obtain ⟨hst, hgr⟩ := hr.stored k (.int .u8 ((v : Int) / 2 ^ (8 * k) % 256))
      rw [set_fill _ _ _ n k hlt hbl' hbk] at hst
      clear hg hbk hr ec hbl'
      go_wp2
      go_roundw
      case rel => exact ⟨k + 1, by omega, by go_num, hst, hbr.grown hgr hbr.size (fun j hj => by cases hj; exact Nat.le_refl _)⟩
      case measure => simp [intOf]; omega
    · have hkn : k = n := by omega
      have hx : Row wr w.heap.size (.slice (some ⟨w.heap.size, 0, none⟩) n n) (leb n v) := by
        unfold Row
        rw [leb_length]
        rw [hkn, List.take_of_length_le (by rw [byteCells_length, leb_length]; omega)] at hr
        simpa using hr
      have hstr := row_string hx
      clear hr hx
      go_wp2
      go_ret2
      exact ⟨rfl, hbr⟩

/-- What Fix tells, of any two ints. -/
def fixB (v n : Int) : List UInt8 := if 1 ≤ n ∧ n ≤ 7 ∧ 0 ≤ v ∧ v < 2 ^ (8 * n.toNat) then leb n.toNat v.toNat else []
def fixE (v n : Int) : Int := if 1 ≤ n ∧ n ≤ 7 ∧ 0 ≤ v ∧ v < 2 ^ (8 * n.toNat) then 0 else 1

theorem fix_any (v n : Int) (w : World) (hv : v ≤ 9223372036854775807) :
    Calls Tryz.prog 167 #[.int .i64 v, .int .i64 n] w fun e w' => e = .returned (.tuple #[.string ⟨(fixB v n).toArray⟩, .int .i64 (fixE v n)]) ∧ Below w.heap.size w w' := by
  unfold fixB fixE
  by_cases h : n < 1 ∨ 7 < n ∨ v < 0
  · rw [if_neg (by omega), if_neg (by omega)]
    refine (fix_bad1 v n w h).mono ?_
    rintro e w' ⟨rfl, rfl⟩
    exact ⟨rfl, Below.refl _ _⟩
  · obtain ⟨k, rfl⟩ : ∃ k : Nat, n = k := ⟨n.toNat, by omega⟩
    obtain ⟨u, rfl⟩ : ∃ u : Nat, v = u := ⟨v.toNat, by omega⟩
    simp only [Int.toNat_natCast]
    have ec : ((u : Int) < 2 ^ (8 * k)) ↔ u < 2 ^ (8 * k) := by
      rw [show ((2 : Int) ^ (8 * k)) = ((2 ^ (8 * k) : Nat) : Int) by simp]
      omega
    by_cases hb : u < 2 ^ (8 * k)
    · rw [if_pos ⟨by omega, by omega, by omega, ec.2 hb⟩, if_pos ⟨by omega, by omega, by omega, ec.2 hb⟩]
      exact fix_ok u k w (by omega) (by omega) (by omega) hb
    · rw [if_neg (fun h => hb (ec.1 h.2.2.2)), if_neg (fun h => hb (ec.1 h.2.2.2))]
      refine (fix_big u k w (by omega) (by omega) hb).mono ?_
      rintro e w' ⟨rfl, rfl⟩
      exact ⟨rfl, Below.refl _ _⟩
end Go.Proofs.YtlignamakiiokaaGreatDoor

namespace Go.Proofs.YtlignamakiiokaaGreatDoor
open Go.RowKit Go.Lib

/-- One of the eight steps of a byte, and all of them; a byte; bytes; the sum. -/
def step1 (x : Nat) : Nat := if x % 2 = 1 then x / 2 ^^^ 3988292384 else x / 2
def steps : Nat → Nat → Nat
  | 0, x => x
  | k + 1, x => steps k (step1 x)
def crcByte (x : Nat) (c : UInt8) : Nat := steps 8 (x ^^^ c.toNat)
def crcFrom (x : Nat) (l : List UInt8) : Nat := l.foldl crcByte x
def crcB (l : List UInt8) : Nat := 4294967295 - crcFrom 4294967295 l

theorem xor_lt32 {a b : Nat} (ha : a < 4294967296) (hb : b < 4294967296) : a ^^^ b < 4294967296 := Nat.xor_lt_two_pow (n := 32) ha hb
theorem step1_lt {x : Nat} (h : x < 4294967296) : step1 x < 4294967296 := by
  unfold step1
  split
  · exact xor_lt32 (by omega) (by decide)
  · omega
theorem steps_lt : ∀ (k x : Nat), x < 4294967296 → steps k x < 4294967296
  | 0, _, h => h
  | k + 1, _, h => steps_lt k _ (step1_lt h)
theorem steps_succ : ∀ (k x : Nat), steps (k + 1) x = step1 (steps k x)
  | 0, _ => rfl
  | k + 1, x => steps_succ k (step1 x)
theorem crcByte_lt {x : Nat} {c : UInt8} (h : x < 4294967296) : crcByte x c < 4294967296 := steps_lt 8 _ (xor_lt32 h (by have := c.toNat_lt; omega))
theorem crcFrom_lt : ∀ (l : List UInt8) (x : Nat), x < 4294967296 → crcFrom x l < 4294967296
  | [], _, h => h
  | _ :: r, _, h => crcFrom_lt r _ (crcByte_lt h)

set_option maxRecDepth 100000 in
theorem stir_step (x : Nat) (h : x < 4294967296) : bits .xor .u32 ((x : Int) / 2) (bits .and .u32 3988292384 (-(bits .and .u32 (x : Int) 1) % 4294967296)) = ((step1 x : Nat) : Int) := by
  have e1 : bits .and .u32 (x : Int) 1 = ((x % 2 : Nat) : Int) := by
    have := u32_and_nat x 1 h (by decide)
    rw [show ((1 : Nat) : Int) = 1 from rfl] at this
    rw [this, nat_mask1]
  rw [e1]
  have e2 : (x : Int) / 2 = ((x / 2 : Nat) : Int) := by omega
  rw [e2]
  unfold step1
  by_cases hp : x % 2 = 1
  · have e3 : -((x % 2 : Nat) : Int) % 4294967296 = ((4294967295 : Nat) : Int) := by omega
    have e4 : bits .and .u32 3988292384 ((4294967295 : Nat) : Int) = ((3988292384 : Nat) : Int) := by decide +kernel
    rw [e3, e4, if_pos hp]
    exact u32_xor_nat _ _ (by omega) (by decide)
  · have e3 : -((x % 2 : Nat) : Int) % 4294967296 = ((0 : Nat) : Int) := by omega
    have e4 : bits .and .u32 3988292384 ((0 : Nat) : Int) = ((0 : Nat) : Int) := by decide +kernel
    rw [e3, e4, if_neg hp, u32_xor_nat _ _ (by omega) (by decide), Nat.xor_zero]

set_option maxRecDepth 1000000 in
set_option maxHeartbeats 400000 in
theorem stir_any (x : Nat) (w : World) (h : x < 4294967296) : Calls Tryz.prog 200 #[.int .u32 x] w fun e w' => e = .returned (.int .u32 (steps 8 x)) ∧ w = w' := by
  go_enter Tryz.func200, Tryz.ntmps200
  go_wp2
  go_loop [0, 3] (fun v i => ∃ k : Nat, k ≤ 8 ∧ i = .int .i64 k ∧ v = .int .u32 (steps k x)) (fun _ i => 8 - (intOf i).toNat)
  case atStart => exact ⟨0, by omega, rfl, rfl⟩
  case round =>
    obtain ⟨k, hk, rfl, rfl⟩ := hrel
    have hst := stir_step (steps k x) (steps_lt k x h)
    rw [← steps_succ] at hst
    have HST := Lib.hid hst
    have hlt := steps_lt k x h
    generalize hy : steps k x = y at *
    have HY := Lib.hid hy
    clear hst hy
    by_cases hk8 : k < 8
    · go_wp2
      go_round
      case rel => exact ⟨k + 1, by omega, by go_num, by rw [HST.out]⟩
      case measure => simp [intOf]; omega
    · obtain rfl : k = 8 := by omega
      go_wp2
      rw [HY.out]
      go_ret
      exact ⟨rfl, rfl⟩

theorem crc_byte (x c : Nat) (h : x < 4294967296) (hc : c < 256) : bits .xor .u32 (x : Int) ((c : Int) % 4294967296) = ((x ^^^ c : Nat) : Int) := by
  rw [show ((c : Int) % 4294967296) = (c : Int) by omega]
  exact u32_xor_nat _ _ h (by omega)

theorem ones_xor (n b : Nat) (hb : b < 2 ^ n) : (2 ^ n - 1) ^^^ b = 2 ^ n - 1 - b := by
  refine Nat.eq_of_testBit_eq fun i => ?_
  rw [show 2 ^ n - 1 - b = 2 ^ n - (b + 1) by omega, Nat.testBit_two_pow_sub_succ hb, Nat.testBit_xor, Nat.testBit_two_pow_sub_one]
  by_cases hi : i < n
  · simp [hi]
  · have : b.testBit i = false := Nat.testBit_lt_two_pow (Nat.lt_of_lt_of_le hb (Nat.pow_le_pow_right (by decide) (by omega)))
    simp [hi, this]

theorem crc_not (y : Nat) (h : y < 4294967296) : wrap64 (bits .xor .u32 IntKind.u32.max (y : Int)) = ((4294967295 - y : Nat) : Int) := by
  have e1 : IntKind.u32.max = ((4294967295 : Nat) : Int) := by decide +kernel
  have e2 : (4294967295 : Nat) = 2 ^ 32 - 1 := by decide
  rw [e1, u32_xor_nat _ _ (by decide) h, e2, ones_xor 32 y h]
  unfold wrap64
  omega

def flat (l : List ByteArray) : List UInt8 := l.flatMap fun s => s.data.toList
theorem flat_snoc (l : List ByteArray) (s : ByteArray) : flat (l ++ [s]) = flat l ++ s.data.toList := by simp [flat]
theorem crcFrom_append (x : Nat) (a b : List UInt8) : crcFrom x (a ++ b) = crcFrom (crcFrom x a) b := List.foldl_append

theorem take_bytes (s : ByteArray) (j : Nat) (h : j < s.size) : s.data.toList.take (j + 1) = s.data.toList.take j ++ [s[j]] := by
  rw [List.take_succ_eq_append_getElem (by simpa using h)]
  rfl

set_option maxRecDepth 1000000 in
set_option maxHeartbeats 400000 in
theorem crc_any (v : Value) (l : List ByteArray) (w : World) (hr : Reads1 w w.heap.size v (l.map Value.string)) (hl : l.length ≤ 1099511627776) (hsz : ∀ s ∈ l, s.size ≤ 9223372036854775807) :
    Calls Tryz.prog 168 #[v] w fun e w' => e = .returned (.int .i64 (crcB (flat l))) ∧ w = w' := by
  obtain ⟨A, c, rfl, hc⟩ := hr
  simp only [List.length_map] at hc ⊢
  go_enter Tryz.func168, Tryz.ntmps168
  go_wp2
  go_loop [3, 9] (fun x i => ∃ k : Nat, k ≤ l.length ∧ i = .int .i64 k ∧ x = .int .u32 (crcFrom 4294967295 (flat (l.take k)))) (fun _ i => l.length - (intOf i).toNat)
  case atStart => exact ⟨0, Nat.zero_le _, rfl, rfl⟩
  case round =>
    obtain ⟨k, hk, rfl, rfl⟩ := hrel
    have hlt0 := crcFrom_lt (flat (l.take k)) 4294967295 (by decide)
    by_cases hlt : k < l.length
    · obtain ⟨b, off, rfl, hbb, hcell⟩ := hc (by omega)
      have hck : w.cell? ⟨b, off + k, none⟩ = some (.string l[k]) := hcell k _ (by simp [hlt])
      have hsk := hsz l[k] (by simp)
      have HS : Hid (flat (l.take (k + 1)) = flat (l.take k) ++ l[k].data.toList) := by show _ = _; rw [take_snoc1 l k hlt, flat_snoc]
      generalize l[k] = s at *
      clear hc hcell
      generalize hx : crcFrom 4294967295 (flat (l.take k)) = x0 at *
      have HX := Lib.hid hx
      clear hx
      go_wp2
      go_loop [3, 15] (fun x i => ∃ j : Nat, j ≤ s.size ∧ i = .int .i64 j ∧ x = .int .u32 (crcFrom x0 (s.data.toList.take j))) (fun _ i => s.size - (intOf i).toNat)
      case atStart => exact ⟨0, Nat.zero_le _, rfl, rfl⟩
      case round =>
        obtain ⟨j, hj, rfl, rfl⟩ := hrel
        have hlt1 := crcFrom_lt (s.data.toList.take j) x0 hlt0
        by_cases hjs : j < s.size
        · have HT : Hid (steps 8 (crcFrom x0 (s.data.toList.take j) ^^^ s[j].toNat) = crcFrom x0 (s.data.toList.take (j + 1))) := by show _ = _; rw [take_bytes s j hjs, crcFrom_append]; rfl
          have hxl : crcFrom x0 (s.data.toList.take j) ^^^ s[j].toNat < 4294967296 := xor_lt32 hlt1 (by have := s[j].toNat_lt; omega)
          have hcb := crc_byte _ s[j].toNat hlt1 s[j].toNat_lt
          generalize crcFrom x0 (s.data.toList.take j) = y at *
          have HCB := Lib.hid hcb
          clear hcb
          go_wp2_with fail
          rw [HCB.out]
          refine (stir_any _ _ hxl).mono ?_
          rintro e w' ⟨rfl, rfl⟩
          rw [HT.out]
          go_wp2
          go_round
          case rel => exact ⟨j + 1, by omega, by go_num, rfl⟩
          case measure => simp [intOf]; omega
        · have hjj : s.data.toList.take j = s.data.toList := List.take_of_length_le (by simp; omega)
          have HE : Hid (crcFrom x0 (s.data.toList.take j) = crcFrom 4294967295 (flat (l.take (k + 1)))) := by show _ = _; rw [hjj, HS.out, crcFrom_append, HX.out]
          clear hjj
          generalize crcFrom x0 (s.data.toList.take j) = y at *
          go_wp2
          go_round
          case rel => exact ⟨k + 1, by omega, by go_num, by rw [HE.out]⟩
          case measure => simp [intOf]; omega
    · have hkl : k = l.length := by omega
      have HE : Hid (crcFrom 4294967295 (flat (l.take k)) = crcFrom 4294967295 (flat l)) := by show _ = _; rw [hkl, List.take_length]
      have hnot := crc_not _ hlt0
      have hcb : 4294967295 - crcFrom 4294967295 (flat (l.take k)) = crcB (flat l) := by rw [HE.out]; rfl
      rw [hcb] at hnot
      have HNOT := Lib.hid hnot
      clear hkl hnot hcb
      generalize crcFrom 4294967295 (flat (l.take k)) = y at *
      go_wp2
      rw [HNOT.out]
      go_ret
      exact ⟨rfl, rfl⟩

end Go.Proofs.YtlignamakiiokaaGreatDoor

namespace Go.Proofs.YtlignamakiiokaaGreatDoor
open Go.Lib





theorem crcB_lt (l : List UInt8) : crcB l < 4294967296 := by unfold crcB; omega

end Go.Proofs.YtlignamakiiokaaGreatDoor

namespace Go.Proofs.YtlignamakiiokaaGreatDoor
open Go.RowKit Go.Lib

def headB (kind id next n : Nat) : List UInt8 := leb 1 kind ++ leb 4 id ++ leb 4 next ++ leb 2 n
def bodyB (kind id next : Nat) (s : List UInt8) : List UInt8 := headB kind id next s.length ++ s ++ List.replicate (241 - s.length) 0
def pageB (kind id next : Nat) (s : List UInt8) : List UInt8 := bodyB kind id next s ++ leb 4 (crcB (bodyB kind id next s))


/-- What may be sealed; what Seal tells. -/
def SealOK (id kind next : Int) : Prop := 0 ≤ id ∧ id < 4294967296 ∧ 0 ≤ next ∧ next < 4294967296 ∧ 1 ≤ kind ∧ kind < 256
instance (id kind next : Int) : Decidable (SealOK id kind next) := by unfold SealOK; infer_instance
def sealE (id kind next : Int) (n : Nat) : Int := if SealOK id kind next then (if n ≤ 240 then 0 else 2) else 1
def sealB (id kind next : Int) (s : List UInt8) : List UInt8 := if SealOK id kind next ∧ s.length ≤ 240 then pageB kind.toNat id.toNat next.toNat s else []




/-! ### What is sealed is opened as it was -/

section
variable {kind id next : Nat} {s : List UInt8}
end
end Go.Proofs.YtlignamakiiokaaGreatDoor
