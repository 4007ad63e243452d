/-
  Walks over package num: Fix, Unfix. Walks over package num: Unfix. Numbers as bytes, there and back: nothing of the program stands here. Walks over package num: the check sum. Plain mathematics: one byte that is changed changes the sum. A page's bytes, as lists: nothing of the program stands here. A meta's page as lists of bytes: what Put tells, what Get tells, and that the one undoes the other. Walks over the document's own answers to chapter 1: Fix, Unfix. Walks over the document's own answers to chapter 1: the check sum.
-/
import Derived.Test.YthcpjpebahiikaaDoorMg3
import Derived.Lib.Varint
import Derived.Lib.VarintMem
import Derived.Lib.Zigzag
import Derived.Lib.VarintBits
import Derived.Laws.Bits64b
import Derived.Laws.BitsAllLaws
namespace Go.Proofs.YthcpjpebahiikaaDoor
open Go.RowKit Go.Lib

/-- A number in n bytes, the lowest first. -/
def leb : Nat → Nat → List UInt8
  | 0, _ => []
  | n + 1, v => (v % 256).toUInt8 :: leb n (v / 256)

theorem leb_length : ∀ (n v : Nat), (leb n v).length = n
  | 0, _ => rfl
  | n + 1, v => by rw [leb, List.length_cons, leb_length n]

set_option maxRecDepth 1000000 in
set_option maxHeartbeats 400000 in
theorem fix_bad1 (v n : Int) (w : World) (h : n < 1 ∨ 7 < n ∨ v < 0) : Calls Tryd.prog 21 #[.int .i64 v, .int .i64 n] w fun e w' => e = .returned (.tuple #[.string ByteArray.empty, .int .i64 1]) ∧ w = w' := by
  by_cases h1 : n < 1
  · go_enter Tryd.func21, Tryd.ntmps21
    go_wp2
    go_ret2
    exact ⟨rfl, rfl⟩
  · by_cases h2 : 7 < n
    · go_enter Tryd.func21, Tryd.ntmps21
      go_wp2
      go_ret2
      exact ⟨rfl, rfl⟩
    · have h3 : v < 0 := by omega
      go_enter Tryd.func21, Tryd.ntmps21
      go_wp2
      go_ret2
      exact ⟨rfl, rfl⟩

theorem leb_get : ∀ (n v k : Nat), k < n → (leb n v)[k]? = some ((v / 2 ^ (8 * k) % 256).toUInt8)
  | n + 1, v, 0, _ => by simp [leb]
  | n + 1, v, k + 1, h => by
    rw [leb, List.getElem?_cons_succ, leb_get n (v / 256) k (by omega), Nat.div_div_eq_div_mul, show 8 * (k + 1) = 8 + 8 * k by omega, Nat.pow_add]

theorem set_fill {α : Type} (B : List α) (z x : α) (n k : Nat) (hk : k < n) (hB : B.length = n) (hx : B[k]? = some x) :
    (B.take k ++ List.replicate (n - k) z).set k x = B.take (k + 1) ++ List.replicate (n - (k + 1)) z := by
  rw [List.set_append_right _ _ (by simp; omega)]
  have e1 : k - (B.take k).length = 0 := by simp; omega
  rw [e1, show n - k = (n - (k + 1)) + 1 by omega, List.replicate_succ, List.set_cons_zero, List.take_add_one, hx]
  simp

theorem shr_zero {v n : Nat} (h : v < 2 ^ (8 * n)) : (((v : Int) / 2 ^ (8 * n)) != 0) = false := by
  have e : ((v : Int) / 2 ^ (8 * n)) = ((v / 2 ^ (8 * n) : Nat) : Int) := by simp
  rw [e, Nat.div_eq_of_lt h]
  rfl
theorem shr_some {v n : Nat} (h : ¬ v < 2 ^ (8 * n)) : (((v : Int) / 2 ^ (8 * n)) != 0) = true := by
  have e : ((v : Int) / 2 ^ (8 * n)) = ((v / 2 ^ (8 * n) : Nat) : Int) := by simp
  have h2 : 0 < v / 2 ^ (8 * n) := Nat.div_pos (by omega) (Nat.two_pow_pos _)
  rw [e]
  simp
  omega

set_option maxRecDepth 1000000 in
set_option maxHeartbeats 400000 in
theorem fix_big (v n : Nat) (w : World) (h1 : 1 ≤ n) (h7 : n ≤ 7) (hb : ¬ v < 2 ^ (8 * n)) : Calls Tryd.prog 21 #[.int .i64 v, .int .i64 n] w fun e w' => e = .returned (.tuple #[.string ByteArray.empty, .int .i64 1]) ∧ w = w' := by
  have hs := shr_some hb
  clear hb
  go_enter Tryd.func21, Tryd.ntmps21
  go_wp2
  go_ret2
  exact ⟨rfl, rfl⟩

set_option maxRecDepth 1000000 in
set_option maxHeartbeats 400000 in
theorem fix_ok (v n : Nat) (w : World) (h1 : 1 ≤ n) (h7 : n ≤ 7) (hv : v ≤ 9223372036854775807) (hb : v < 2 ^ (8 * n)) :
    Calls Tryd.prog 21 #[.int .i64 v, .int .i64 n] w fun e w' => e = .returned (.tuple #[.string ⟨(leb n v).toArray⟩, .int .i64 0]) ∧ Below w.heap.size w w' := by
  obtain ⟨i0, hi, hz0, hz1, hz2⟩ := info_parts Tryd.infoU8
  have hs := shr_zero hb
  clear hb
  go_enter Tryd.func21, Tryd.ntmps21
  go_wp2_with (at_make; refine wpList_make_full _ rfl _ _ 29 rfl w.heap.size 5 i0 (.int .u8 0) 1 Tryd.underlying29 hi hz0 hz1 .i64 .i64 n n n rfl rfl rfl rfl (by rw [hz2]; omega) (by unfold maxLen; omega) (Nat.le_refl _) ?_; intro w1 hown hgrow)
  have hrow : w1.ownsRow w.heap.size 5 1 (.slice (some ⟨w.heap.size, 0, none⟩) n n) n ((byteCells (leb n v)).take 0 ++ List.replicate (n - 0) (.int .u8 0)) := by
    have e := toList_madeCells_one (.int .u8 0) n
    simp only [Nat.mul_one] at hown
    have e2 : (Value.int .u8 0).cells = #[Value.int .u8 0] := rfl
    rw [e2, e] at hown
    simpa using hown
  have hbl : Below w.heap.size w w1 := (Below.refl _ _).grown hgrow (Nat.le_refl _) (fun k hk => by cases hk)
  clear hown hgrow
  go_loopw [29] (fun i wr => ∃ k : Nat, k ≤ n ∧ i = .int .i64 k ∧ wr.ownsRow w.heap.size 5 1 (.slice (some ⟨w.heap.size, 0, none⟩) n n) n ((byteCells (leb n v)).take k ++ List.replicate (n - k) (.int .u8 0)) ∧ Below w.heap.size w wr) (fun i _ => n - (intOf i).toNat)
  case atStart => exact ⟨0, Nat.zero_le _, rfl, hrow, hbl⟩
  case round =>
    obtain ⟨k, hk, rfl, hr, hbr⟩ := hrel
    by_cases hlt : k < n
    · have hg := leb_get n v k hlt
      have ec : ((v / 2 ^ (8 * k) % 256 : Nat) : Int) = (v : Int) / 2 ^ (8 * k) % 256 := by simp
      have hbk : (byteCells (leb n v))[k]? = some (.int .u8 ((v : Int) / 2 ^ (8 * k) % 256)) := by
        rw [byteCells, List.getElem?_map, hg, ← ec]
        simp [toUInt8_toNat]
      have hbl' : (byteCells (leb n v)).length = n := by rw [byteCells_length, leb_length]
      have hc : wr.cell? ⟨w.heap.size, k, none⟩ = some (.int .u8 0) := by
        rw [hr.cellAt k (by omega), List.getElem?_append_right (by simp; omega)]
        have e1 : k - ((byteCells (leb n v)).take k).length = 0 := by simp; omega
        rw [e1, show n - k = (n - (k + 1)) + 1 by omega]
        rfl
      have hfz := hr.frozenAt k
      obtain ⟨hst, hgr⟩ := hr.stored k (.int .u8 ((v : Int) / 2 ^ (8 * k) % 256))
      rw [set_fill _ _ _ n k hlt hbl' hbk] at hst
      clear hg hbk hr ec hbl'
      go_wp2
      go_roundw
      case rel => exact ⟨k + 1, by omega, by go_num, hst, hbr.grown hgr hbr.size (fun j hj => by cases hj; exact Nat.le_refl _)⟩
      case measure => simp [intOf]; omega
    · have hkn : k = n := by omega
      have hx : Row wr w.heap.size (.slice (some ⟨w.heap.size, 0, none⟩) n n) (leb n v) := by
        unfold Row
        rw [leb_length]
        rw [hkn, List.take_of_length_le (by rw [byteCells_length, leb_length]; omega)] at hr
        simpa using hr
      have hstr := row_string hx
      clear hr hx
      go_wp2
      go_ret2
      exact ⟨rfl, hbr⟩

/-- What Fix tells, of any two ints. -/
def fixB (v n : Int) : List UInt8 := if 1 ≤ n ∧ n ≤ 7 ∧ 0 ≤ v ∧ v < 2 ^ (8 * n.toNat) then leb n.toNat v.toNat else []
def fixE (v n : Int) : Int := if 1 ≤ n ∧ n ≤ 7 ∧ 0 ≤ v ∧ v < 2 ^ (8 * n.toNat) then 0 else 1

theorem fix_any (v n : Int) (w : World) (hv : v ≤ 9223372036854775807) :
    Calls Tryd.prog 21 #[.int .i64 v, .int .i64 n] w fun e w' => e = .returned (.tuple #[.string ⟨(fixB v n).toArray⟩, .int .i64 (fixE v n)]) ∧ Below w.heap.size w w' := by
  unfold fixB fixE
  by_cases h : n < 1 ∨ 7 < n ∨ v < 0
  · rw [if_neg (by omega), if_neg (by omega)]
    refine (fix_bad1 v n w h).mono ?_
    rintro e w' ⟨rfl, rfl⟩
    exact ⟨rfl, Below.refl _ _⟩
  · obtain ⟨k, rfl⟩ : ∃ k : Nat, n = k := ⟨n.toNat, by omega⟩
    obtain ⟨u, rfl⟩ : ∃ u : Nat, v = u := ⟨v.toNat, by omega⟩
    simp only [Int.toNat_natCast]
    have ec : ((u : Int) < 2 ^ (8 * k)) ↔ u < 2 ^ (8 * k) := by
      rw [show ((2 : Int) ^ (8 * k)) = ((2 ^ (8 * k) : Nat) : Int) by simp]
      omega
    by_cases hb : u < 2 ^ (8 * k)
    · rw [if_pos ⟨by omega, by omega, by omega, ec.2 hb⟩, if_pos ⟨by omega, by omega, by omega, ec.2 hb⟩]
      exact fix_ok u k w (by omega) (by omega) (by omega) hb
    · rw [if_neg (fun h => hb (ec.1 h.2.2.2)), if_neg (fun h => hb (ec.1 h.2.2.2))]
      refine (fix_big u k w (by omega) (by omega) hb).mono ?_
      rintro e w' ⟨rfl, rfl⟩
      exact ⟨rfl, Below.refl _ _⟩
end Go.Proofs.YthcpjpebahiikaaDoor

namespace Go.Proofs.YthcpjpebahiikaaDoor
open Go.RowKit Go.Lib

/-- The number of bytes, the lowest first. -/
def unleb : List UInt8 → Nat
  | [] => 0
  | c :: r => c.toNat + 256 * unleb r

theorem unleb_lt : ∀ l : List UInt8, unleb l < 2 ^ (8 * l.length)
  | [] => by simp [unleb]
  | c :: r => by
    have h := unleb_lt r
    have hc := c.toNat_lt
    rw [unleb, List.length_cons, show 8 * (r.length + 1) = 8 + 8 * r.length by omega, Nat.pow_add]
    omega

theorem unleb_snoc (c : UInt8) : ∀ l : List UInt8, unleb (l ++ [c]) = unleb l + c.toNat * 2 ^ (8 * l.length)
  | [] => by simp [unleb]
  | a :: r => by
    rw [List.cons_append, unleb, unleb_snoc c r, unleb, List.length_cons, show 8 * (r.length + 1) = 8 + 8 * r.length by omega, Nat.pow_add]
    have : c.toNat * (2 ^ 8 * 2 ^ (8 * r.length)) = 256 * (c.toNat * 2 ^ (8 * r.length)) := by
      rw [← Nat.mul_assoc, Nat.mul_comm c.toNat (2 ^ 8), Nat.mul_assoc]
    rw [this]
    omega



theorem wraps_i64 (n : Int) (h₀ : 0 ≤ n) (h₁ : n < 2 ^ 63) : IntKind.i64.wrap n = n := by rw [IntKind.wrap_i64]; omega

theorem or_byte (X c k : Nat) (hX : X < 2 ^ (8 * k)) (hc : c < 256) (hk : k ≤ 6) :
    bits .or .i64 (X : Int) (wrap64 (wrap64 (c : Int) * 2 ^ (8 * k))) = ((X + c * 2 ^ (8 * k) : Nat) : Int) := by
  have hp : (2 : Nat) ^ (8 * k) ≤ 2 ^ 48 := Nat.pow_le_pow_right (by decide) (by omega)
  have hlt : c * 2 ^ (8 * k) < 2 ^ 63 := by
    have h2 : c * 2 ^ (8 * k) ≤ 255 * 2 ^ 48 := Nat.le_trans (Nat.mul_le_mul_right _ (show c ≤ 255 by omega)) (Nat.mul_le_mul_left _ hp)
    exact Nat.lt_of_le_of_lt h2 (by decide)
  have hX63 : X < 2 ^ 63 := Nat.lt_of_lt_of_le hX (Nat.le_trans hp (by decide))
  have e1 : wrap64 (c : Int) = (c : Int) := by unfold wrap64; omega
  have e2 : (c : Int) * 2 ^ (8 * k) = ((c * 2 ^ (8 * k) : Nat) : Int) := by simp
  have e3 : wrap64 ((c * 2 ^ (8 * k) : Nat) : Int) = ((c * 2 ^ (8 * k) : Nat) : Int) := by unfold wrap64; omega
  rw [e1, e2, e3, (bits_nat .i64 63 (by decide) wraps_i64 X _ hX63 hlt).2, Nat.or_comm, nat_join (8 * k) _ _ (Nat.mul_mod_left _ _) hX, Nat.add_comm]

theorem take_drop_snoc (s : ByteArray) (a k : Nat) (h : a + k < s.size) : (s.data.toList.drop a).take (k + 1) = (s.data.toList.drop a).take k ++ [s[a + k]] := by
  rw [List.take_succ_eq_append_getElem (by simp; omega)]
  congr 2
  simp
  rfl

set_option maxRecDepth 1000000 in
set_option maxHeartbeats 400000 in
theorem unfix_ok (s : ByteArray) (a n : Nat) (w : World) (h1 : 1 ≤ n) (h7 : n ≤ 7) (hs : s.size ≤ 9223372036854775807) (h : a + n ≤ s.size) :
    Calls Tryd.prog 44 #[.string s, .int .i64 a, .int .i64 n] w fun e w' => e = .returned (.tuple #[.int .i64 (unleb ((s.data.toList.drop a).take n)), .int .i64 0]) ∧ w = w' := by
  go_enter Tryd.func44, Tryd.ntmps44
  go_wp2
  go_loop [8, 27] (fun v i => ∃ k : Nat, k ≤ n ∧ i = .int .i64 k ∧ v = .int .i64 (unleb ((s.data.toList.drop a).take k))) (fun _ i => n - (intOf i).toNat)
  case atStart => exact ⟨0, Nat.zero_le _, rfl, rfl⟩
  case round =>
    obtain ⟨k, hk, rfl, rfl⟩ := hrel
    by_cases hlt : k < n
    · have hx := unleb_lt ((s.data.toList.drop a).take k)
      have hlen : ((s.data.toList.drop a).take k).length = k := by simp; omega
      rw [hlen] at hx
      have hak : a + k < s.size := by omega
      have hor := or_byte _ s[a + k].toNat k hx s[a + k].toNat_lt (by omega)
      have hsn : unleb ((s.data.toList.drop a).take k) + s[a + k].toNat * 2 ^ (8 * k) = unleb ((s.data.toList.drop a).take (k + 1)) := by rw [take_drop_snoc s a k hak, unleb_snoc, hlen]
      rw [hsn] at hor
      have HOR := Lib.hid hor
      clear hor hsn hx hlen
      go_wp2
      go_round
      case rel => exact ⟨k + 1, by omega, by go_num, by rw [HOR.out]⟩
      case measure => simp [intOf]; omega
    · have hkn : k = n := by omega
      go_wp2
      go_ret2
      exact ⟨rfl, rfl⟩


end Go.Proofs.YthcpjpebahiikaaDoor

namespace Go.Proofs.YthcpjpebahiikaaDoor
open Go.RowKit Go.Lib


theorem unleb_leb : ∀ (n v : Nat), v < 2 ^ (8 * n) → unleb (leb n v) = v
  | 0, v, h => by simp at h; subst h; rfl
  | n + 1, v, h => by
    have h1 : v / 256 < 2 ^ (8 * n) := by
      rw [show 8 * (n + 1) = 8 * n + 8 by omega, Nat.pow_add] at h
      exact Nat.div_lt_of_lt_mul (by rw [Nat.mul_comm]; exact h)
    rw [leb, unleb, unleb_leb n _ h1, toUInt8_toNat (by omega)]
    omega

theorem leb_unleb : ∀ l : List UInt8, leb l.length (unleb l) = l
  | [] => rfl
  | c :: r => by
    have hc := c.toNat_lt
    have h1 : (c.toNat + 256 * unleb r) % 256 = c.toNat := by omega
    have h2 : (c.toNat + 256 * unleb r) / 256 = unleb r := by omega
    rw [List.length_cons, unleb, leb, h1, h2, leb_unleb r]
    congr 1
    exact UInt8.toNat_inj.1 (toUInt8_toNat hc)
theorem unleb_inj {a b : List UInt8} (hl : a.length = b.length) (h : unleb a = unleb b) : a = b := by
  rw [← leb_unleb a, ← leb_unleb b, hl, h]
end Go.Proofs.YthcpjpebahiikaaDoor

namespace Go.Proofs.YthcpjpebahiikaaDoor
open Go.RowKit Go.Lib

/-- One of the eight steps of a byte, and all of them; a byte; bytes; the sum. -/
def step1 (x : Nat) : Nat := if x % 2 = 1 then x / 2 ^^^ 3988292384 else x / 2
def steps : Nat → Nat → Nat
  | 0, x => x
  | k + 1, x => steps k (step1 x)
def crcByte (x : Nat) (c : UInt8) : Nat := steps 8 (x ^^^ c.toNat)
def crcFrom (x : Nat) (l : List UInt8) : Nat := l.foldl crcByte x
def crcB (l : List UInt8) : Nat := 4294967295 - crcFrom 4294967295 l

theorem xor_lt32 {a b : Nat} (ha : a < 4294967296) (hb : b < 4294967296) : a ^^^ b < 4294967296 := Nat.xor_lt_two_pow (n := 32) ha hb
theorem step1_lt {x : Nat} (h : x < 4294967296) : step1 x < 4294967296 := by
  unfold step1
  split
  · exact xor_lt32 (by omega) (by decide)
  · omega
theorem steps_lt : ∀ (k x : Nat), x < 4294967296 → steps k x < 4294967296
  | 0, _, h => h
  | k + 1, _, h => steps_lt k _ (step1_lt h)
theorem steps_succ : ∀ (k x : Nat), steps (k + 1) x = step1 (steps k x)
  | 0, _ => rfl
  | k + 1, x => steps_succ k (step1 x)
theorem crcByte_lt {x : Nat} {c : UInt8} (h : x < 4294967296) : crcByte x c < 4294967296 := steps_lt 8 _ (xor_lt32 h (by have := c.toNat_lt; omega))
theorem crcFrom_lt : ∀ (l : List UInt8) (x : Nat), x < 4294967296 → crcFrom x l < 4294967296
  | [], _, h => h
  | _ :: r, _, h => crcFrom_lt r _ (crcByte_lt h)

set_option maxRecDepth 100000 in
theorem stir_step (x : Nat) (h : x < 4294967296) : bits .xor .u32 ((x : Int) / 2) (bits .and .u32 3988292384 (-(bits .and .u32 (x : Int) 1) % 4294967296)) = ((step1 x : Nat) : Int) := by
  have e1 : bits .and .u32 (x : Int) 1 = ((x % 2 : Nat) : Int) := by
    have := u32_and_nat x 1 h (by decide)
    rw [show ((1 : Nat) : Int) = 1 from rfl] at this
    rw [this, nat_mask1]
  rw [e1]
  have e2 : (x : Int) / 2 = ((x / 2 : Nat) : Int) := by omega
  rw [e2]
  unfold step1
  by_cases hp : x % 2 = 1
  · have e3 : -((x % 2 : Nat) : Int) % 4294967296 = ((4294967295 : Nat) : Int) := by omega
    have e4 : bits .and .u32 3988292384 ((4294967295 : Nat) : Int) = ((3988292384 : Nat) : Int) := by decide +kernel
    rw [e3, e4, if_pos hp]
    exact u32_xor_nat _ _ (by omega) (by decide)
  · have e3 : -((x % 2 : Nat) : Int) % 4294967296 = ((0 : Nat) : Int) := by omega
    have e4 : bits .and .u32 3988292384 ((0 : Nat) : Int) = ((0 : Nat) : Int) := by decide +kernel
    rw [e3, e4, if_neg hp, u32_xor_nat _ _ (by omega) (by decide), Nat.xor_zero]

set_option maxRecDepth 1000000 in
set_option maxHeartbeats 400000 in
theorem stir_any (x : Nat) (w : World) (h : x < 4294967296) : Calls Tryd.prog 55 #[.int .u32 x] w fun e w' => e = .returned (.int .u32 (steps 8 x)) ∧ w = w' := by
  go_enter Tryd.func55, Tryd.ntmps55
  go_wp2
  go_loop [0, 3] (fun v i => ∃ k : Nat, k ≤ 8 ∧ i = .int .i64 k ∧ v = .int .u32 (steps k x)) (fun _ i => 8 - (intOf i).toNat)
  case atStart => exact ⟨0, by omega, rfl, rfl⟩
  case round =>
    obtain ⟨k, hk, rfl, rfl⟩ := hrel
    have hst := stir_step (steps k x) (steps_lt k x h)
    rw [← steps_succ] at hst
    have HST := Lib.hid hst
    have hlt := steps_lt k x h
    generalize hy : steps k x = y at *
    have HY := Lib.hid hy
    clear hst hy
    by_cases hk8 : k < 8
    · go_wp2
      go_round
      case rel => exact ⟨k + 1, by omega, by go_num, by rw [HST.out]⟩
      case measure => simp [intOf]; omega
    · obtain rfl : k = 8 := by omega
      go_wp2
      rw [HY.out]
      go_ret
      exact ⟨rfl, rfl⟩

theorem crc_byte (x c : Nat) (h : x < 4294967296) (hc : c < 256) : bits .xor .u32 (x : Int) ((c : Int) % 4294967296) = ((x ^^^ c : Nat) : Int) := by
  rw [show ((c : Int) % 4294967296) = (c : Int) by omega]
  exact u32_xor_nat _ _ h (by omega)

theorem ones_xor (n b : Nat) (hb : b < 2 ^ n) : (2 ^ n - 1) ^^^ b = 2 ^ n - 1 - b := by
  refine Nat.eq_of_testBit_eq fun i => ?_
  rw [show 2 ^ n - 1 - b = 2 ^ n - (b + 1) by omega, Nat.testBit_two_pow_sub_succ hb, Nat.testBit_xor, Nat.testBit_two_pow_sub_one]
  by_cases hi : i < n
  · simp [hi]
  · have : b.testBit i = false := Nat.testBit_lt_two_pow (Nat.lt_of_lt_of_le hb (Nat.pow_le_pow_right (by decide) (by omega)))
    simp [hi, this]

theorem crc_not (y : Nat) (h : y < 4294967296) : wrap64 (bits .xor .u32 IntKind.u32.max (y : Int)) = ((4294967295 - y : Nat) : Int) := by
  have e1 : IntKind.u32.max = ((4294967295 : Nat) : Int) := by decide +kernel
  have e2 : (4294967295 : Nat) = 2 ^ 32 - 1 := by decide
  rw [e1, u32_xor_nat _ _ (by decide) h, e2, ones_xor 32 y h]
  unfold wrap64
  omega

def flat (l : List ByteArray) : List UInt8 := l.flatMap fun s => s.data.toList
theorem flat_snoc (l : List ByteArray) (s : ByteArray) : flat (l ++ [s]) = flat l ++ s.data.toList := by simp [flat]
theorem crcFrom_append (x : Nat) (a b : List UInt8) : crcFrom x (a ++ b) = crcFrom (crcFrom x a) b := List.foldl_append

theorem take_bytes (s : ByteArray) (j : Nat) (h : j < s.size) : s.data.toList.take (j + 1) = s.data.toList.take j ++ [s[j]] := by
  rw [List.take_succ_eq_append_getElem (by simpa using h)]
  rfl

set_option maxRecDepth 1000000 in
set_option maxHeartbeats 400000 in
theorem crc_any (v : Value) (l : List ByteArray) (w : World) (hr : Reads1 w w.heap.size v (l.map Value.string)) (hl : l.length ≤ 1099511627776) (hsz : ∀ s ∈ l, s.size ≤ 9223372036854775807) :
    Calls Tryd.prog 39 #[v] w fun e w' => e = .returned (.int .i64 (crcB (flat l))) ∧ w = w' := by
  obtain ⟨A, c, rfl, hc⟩ := hr
  simp only [List.length_map] at hc ⊢
  go_enter Tryd.func39, Tryd.ntmps39
  go_wp2
  go_loop [3, 9] (fun x i => ∃ k : Nat, k ≤ l.length ∧ i = .int .i64 k ∧ x = .int .u32 (crcFrom 4294967295 (flat (l.take k)))) (fun _ i => l.length - (intOf i).toNat)
  case atStart => exact ⟨0, Nat.zero_le _, rfl, rfl⟩
  case round =>
    obtain ⟨k, hk, rfl, rfl⟩ := hrel
    have hlt0 := crcFrom_lt (flat (l.take k)) 4294967295 (by decide)
    by_cases hlt : k < l.length
    · obtain ⟨b, off, rfl, hbb, hcell⟩ := hc (by omega)
      have hck : w.cell? ⟨b, off + k, none⟩ = some (.string l[k]) := hcell k _ (by simp [hlt])
      have hsk := hsz l[k] (by simp)
      have HS : Hid (flat (l.take (k + 1)) = flat (l.take k) ++ l[k].data.toList) := by show _ = _; rw [take_snoc1 l k hlt, flat_snoc]
      generalize l[k] = s at *
      clear hc hcell
      generalize hx : crcFrom 4294967295 (flat (l.take k)) = x0 at *
      have HX := Lib.hid hx
      clear hx
      go_wp2
      go_loop [3, 15] (fun x i => ∃ j : Nat, j ≤ s.size ∧ i = .int .i64 j ∧ x = .int .u32 (crcFrom x0 (s.data.toList.take j))) (fun _ i => s.size - (intOf i).toNat)
      case atStart => exact ⟨0, Nat.zero_le _, rfl, rfl⟩
      case round =>
        obtain ⟨j, hj, rfl, rfl⟩ := hrel
        have hlt1 := crcFrom_lt (s.data.toList.take j) x0 hlt0
        by_cases hjs : j < s.size
        · have HT : Hid (steps 8 (crcFrom x0 (s.data.toList.take j) ^^^ s[j].toNat) = crcFrom x0 (s.data.toList.take (j + 1))) := by show _ = _; rw [take_bytes s j hjs, crcFrom_append]; rfl
          have hxl : crcFrom x0 (s.data.toList.take j) ^^^ s[j].toNat < 4294967296 := xor_lt32 hlt1 (by have := s[j].toNat_lt; omega)
          have hcb := crc_byte _ s[j].toNat hlt1 s[j].toNat_lt
          generalize crcFrom x0 (s.data.toList.take j) = y at *
          have HCB := Lib.hid hcb
          clear hcb
          go_wp2_with fail
          rw [HCB.out]
          refine (stir_any _ _ hxl).mono ?_
          rintro e w' ⟨rfl, rfl⟩
          rw [HT.out]
          go_wp2
          go_round
          case rel => exact ⟨j + 1, by omega, by go_num, rfl⟩
          case measure => simp [intOf]; omega
        · have hjj : s.data.toList.take j = s.data.toList := List.take_of_length_le (by simp; omega)
          have HE : Hid (crcFrom x0 (s.data.toList.take j) = crcFrom 4294967295 (flat (l.take (k + 1)))) := by show _ = _; rw [hjj, HS.out, crcFrom_append, HX.out]
          clear hjj
          generalize crcFrom x0 (s.data.toList.take j) = y at *
          go_wp2
          go_round
          case rel => exact ⟨k + 1, by omega, by go_num, by rw [HE.out]⟩
          case measure => simp [intOf]; omega
    · have hkl : k = l.length := by omega
      have HE : Hid (crcFrom 4294967295 (flat (l.take k)) = crcFrom 4294967295 (flat l)) := by show _ = _; rw [hkl, List.take_length]
      have hnot := crc_not _ hlt0
      have hcb : 4294967295 - crcFrom 4294967295 (flat (l.take k)) = crcB (flat l) := by rw [HE.out]; rfl
      rw [hcb] at hnot
      have HNOT := Lib.hid hnot
      clear hkl hnot hcb
      generalize crcFrom 4294967295 (flat (l.take k)) = y at *
      go_wp2
      rw [HNOT.out]
      go_ret
      exact ⟨rfl, rfl⟩

end Go.Proofs.YthcpjpebahiikaaDoor

namespace Go.Proofs.YthcpjpebahiikaaDoor
open Go.Lib





theorem crcB_lt (l : List UInt8) : crcB l < 4294967296 := by unfold crcB; omega

end Go.Proofs.YthcpjpebahiikaaDoor

namespace Go.Proofs.YthcpjpebahiikaaDoor
open Go.RowKit Go.Lib

def headB (kind id next n : Nat) : List UInt8 := leb 1 kind ++ leb 4 id ++ leb 4 next ++ leb 2 n
def bodyB (kind id next : Nat) (s : List UInt8) : List UInt8 := headB kind id next s.length ++ s ++ List.replicate (241 - s.length) 0
def pageB (kind id next : Nat) (s : List UInt8) : List UInt8 := bodyB kind id next s ++ leb 4 (crcB (bodyB kind id next s))

theorem headB_len (kind id next n : Nat) : (headB kind id next n).length = 11 := by simp [headB, leb_length]
theorem bodyB_len {kind id next : Nat} {s : List UInt8} (h : s.length ≤ 240) : (bodyB kind id next s).length = 252 := by
  simp [bodyB, headB_len]
  omega
theorem pageB_len {kind id next : Nat} {s : List UInt8} (h : s.length ≤ 240) : (pageB kind id next s).length = 256 := by
  simp [pageB, bodyB_len h, leb_length]

/-- What may be sealed; what Seal tells. -/
def SealOK (id kind next : Int) : Prop := 0 ≤ id ∧ id < 4294967296 ∧ 0 ≤ next ∧ next < 4294967296 ∧ 1 ≤ kind ∧ kind < 256
instance (id kind next : Int) : Decidable (SealOK id kind next) := by unfold SealOK; infer_instance
def sealE (id kind next : Int) (n : Nat) : Int := if SealOK id kind next then (if n ≤ 240 then 0 else 2) else 1
def sealB (id kind next : Int) (s : List UInt8) : List UInt8 := if SealOK id kind next ∧ s.length ≤ 240 then pageB kind.toNat id.toNat next.toNat s else []

/-- A number of so many bytes from a place on. -/
def fld (l : List UInt8) (i n : Nat) : Nat := unleb ((l.drop i).take n)

/-- What stands behind the body, and what Open tells. -/
def tailB (l : List UInt8) : List UInt8 := (l.take 252).drop (11 + fld l 9 2)
def zeroB (l : List UInt8) : Bool := l.all fun c => c == 0
def openE (id : Int) (l : List UInt8) : Int :=
  if l.length ≠ 256 then 5 else if fld l 252 4 ≠ crcB (l.take 252) then 6 else if (fld l 1 4 : Int) ≠ id ∨ fld l 0 1 = 0 ∨ 240 < fld l 9 2 then 4 else if zeroB (tailB l) = true then 0 else 4
def openK (id : Int) (l : List UInt8) : Nat := if openE id l = 0 then fld l 0 1 else 0
def openN (id : Int) (l : List UInt8) : Nat := if openE id l = 0 then fld l 5 4 else 0
def openS (id : Int) (l : List UInt8) : List UInt8 := if openE id l = 0 then (l.drop 11).take (fld l 9 2) else []
def openV (id : Int) (l : List UInt8) : Value := .tuple #[.agg #[.int .i64 (openK id l), .int .i64 (openN id l), .string ⟨(openS id l).toArray⟩], .int .i64 (openE id l)]

theorem open_short {id : Int} {l : List UInt8} (h : l.length ≠ 256) : openE id l = 5 := by rw [openE, if_pos h]
theorem open_sum {id : Int} {l : List UInt8} (h : l.length = 256) (h1 : fld l 252 4 ≠ crcB (l.take 252)) : openE id l = 6 := by rw [openE, if_neg (by omega), if_pos h1]
theorem open_form {id : Int} {l : List UInt8} (h : l.length = 256) (h1 : fld l 252 4 = crcB (l.take 252)) (h2 : (fld l 1 4 : Int) ≠ id ∨ fld l 0 1 = 0 ∨ 240 < fld l 9 2) : openE id l = 4 := by
  rw [openE, if_neg (by omega), if_neg (by omega), if_pos h2]
theorem open_tail {id : Int} {l : List UInt8} (h : l.length = 256) (h1 : fld l 252 4 = crcB (l.take 252)) (h2 : ¬ ((fld l 1 4 : Int) ≠ id ∨ fld l 0 1 = 0 ∨ 240 < fld l 9 2)) (h3 : zeroB (tailB l) = false) : openE id l = 4 := by
  rw [openE, if_neg (by omega), if_neg (by omega), if_neg h2, if_neg (by simp [h3])]
theorem open_ok {id : Int} {l : List UInt8} (h : l.length = 256) (h1 : fld l 252 4 = crcB (l.take 252)) (h2 : ¬ ((fld l 1 4 : Int) ≠ id ∨ fld l 0 1 = 0 ∨ 240 < fld l 9 2)) (h3 : zeroB (tailB l) = true) : openE id l = 0 := by
  rw [openE, if_neg (by omega), if_neg (by omega), if_neg h2, if_pos h3]
theorem openV_bad {id : Int} {l : List UInt8} {e : Int} (h : openE id l = e) (he : e ≠ 0) : openV id l = .tuple #[.agg #[.int .i64 0, .int .i64 0, .string ⟨#[]⟩], .int .i64 e] := by
  unfold openV openK openN openS
  rw [h, if_neg he, if_neg he, if_neg he]
  rfl
theorem openV_ok {id : Int} {l : List UInt8} (h : openE id l = 0) : openV id l = .tuple #[.agg #[.int .i64 (fld l 0 1), .int .i64 (fld l 5 4), .string ⟨((l.drop 11).take (fld l 9 2)).toArray⟩], .int .i64 0] := by
  unfold openV openK openN openS
  rw [h, if_pos rfl, if_pos rfl, if_pos rfl]

/-! ### What is sealed is opened as it was -/
theorem drop_left {α : Type} (a b : List α) {n : Nat} (h : a.length = n) : (a ++ b).drop n = b := by rw [← h, List.drop_left]
theorem take_left {α : Type} (a b : List α) {n : Nat} (h : a.length = n) : (a ++ b).take n = a := by rw [← h, List.take_left]

section
variable {kind id next : Nat} {s : List UInt8}
theorem page_take (h : s.length ≤ 240) : (pageB kind id next s).take 252 = bodyB kind id next s := take_left _ _ (bodyB_len h)
theorem page_sum (h : s.length ≤ 240) : fld (pageB kind id next s) 252 4 = crcB ((pageB kind id next s).take 252) := by
  rw [page_take h, fld, pageB, drop_left _ _ (bodyB_len h), List.take_of_length_le (by rw [leb_length]; omega), unleb_leb]
  exact crcB_lt _
theorem page_shape : pageB kind id next s = leb 1 kind ++ (leb 4 id ++ (leb 4 next ++ (leb 2 s.length ++ (s ++ (List.replicate (241 - s.length) 0 ++ leb 4 (crcB (bodyB kind id next s))))))) := by
  simp only [pageB, bodyB, headB, List.append_assoc]
theorem page_kind (hk : kind < 256) : fld (pageB kind id next s) 0 1 = kind := by
  rw [page_shape, fld, List.drop_zero, take_left _ _ (leb_length 1 kind), unleb_leb _ _ hk]
theorem page_id (hi : id < 4294967296) : fld (pageB kind id next s) 1 4 = id := by
  rw [page_shape, fld, drop_left _ _ (leb_length 1 kind), take_left _ _ (leb_length 4 id), unleb_leb _ _ hi]
theorem page_next (hn : next < 4294967296) : fld (pageB kind id next s) 5 4 = next := by
  rw [page_shape, fld, show 5 = 1 + 4 from rfl, ← List.drop_drop, drop_left _ _ (leb_length 1 kind), drop_left _ _ (leb_length 4 id), take_left _ _ (leb_length 4 next), unleb_leb _ _ hn]
theorem page_size (h : s.length ≤ 240) : fld (pageB kind id next s) 9 2 = s.length := by
  rw [page_shape, fld, show 9 = 1 + 4 + 4 from rfl, ← List.drop_drop, ← List.drop_drop, drop_left _ _ (leb_length 1 kind), drop_left _ _ (leb_length 4 id), drop_left _ _ (leb_length 4 next), take_left _ _ (leb_length 2 _), unleb_leb _ _ (by omega)]
theorem page_body : (pageB kind id next s).drop 11 = s ++ (List.replicate (241 - s.length) 0 ++ leb 4 (crcB (bodyB kind id next s))) := by
  rw [page_shape, show 11 = 1 + 4 + 4 + 2 from rfl, ← List.drop_drop, ← List.drop_drop, ← List.drop_drop, drop_left _ _ (leb_length 1 kind), drop_left _ _ (leb_length 4 id), drop_left _ _ (leb_length 4 next), drop_left _ _ (leb_length 2 _)]
theorem page_tail (h : s.length ≤ 240) : zeroB (tailB (pageB kind id next s)) = true := by
  rw [tailB, page_size h, page_take h, bodyB, drop_left _ _ (by simp [headB_len]), zeroB, List.all_eq_true]
  intro x hx
  rw [List.eq_of_mem_replicate hx]
  rfl
end
end Go.Proofs.YthcpjpebahiikaaDoor

namespace Go.Proofs.YthcpjpebahiikaaDoor
open Go.RowKit Go.Lib

/-- The i-th number of a meta's body. -/
def six (l : List UInt8) (i : Nat) : Nat := fld l (6 * i) 6
def Fits6 (v : Int) : Prop := 0 ≤ v ∧ v < 281474976710656
instance (v : Int) : Decidable (Fits6 v) := by unfold Fits6; infer_instance
def MetaOK (t r f p : Int) : Prop := Fits6 t ∧ Fits6 r ∧ Fits6 f ∧ Fits6 p
instance (t r f p : Int) : Decidable (MetaOK t r f p) := by unfold MetaOK; infer_instance
def mbody (t r f p : Nat) : List UInt8 := leb 6 t ++ (leb 6 r ++ (leb 6 f ++ leb 6 p))
def mpage (t r f p : Nat) : List UInt8 := pageB 1 (t % 2) 0 (mbody t r f p)
def putE (t r f p : Int) : Int := if MetaOK t r f p then 0 else 1
def putB (t r f p : Int) : List UInt8 := if MetaOK t r f p then mpage t.toNat r.toNat f.toNat p.toNat else []
def metaV (t r f p : Int) : Value := .agg #[.int .i64 t, .int .i64 r, .int .i64 f, .int .i64 p]

/-- What Get takes, and what it tells. -/
def GetOK (g : Int) (l : List UInt8) : Prop := openE g l = 0 ∧ openK g l = 1 ∧ openN g l = 0 ∧ (openS g l).length = 24 ∧ (six (openS g l) 0 : Int) % 2 = g
instance (g : Int) (l : List UInt8) : Decidable (GetOK g l) := by unfold GetOK; infer_instance
def getE (g : Int) (l : List UInt8) : Int := if openE g l ≠ 0 then openE g l else if GetOK g l then 0 else 4
def getN (g : Int) (l : List UInt8) (i : Nat) : Int := if GetOK g l then six (openS g l) i else 0
def getV (g : Int) (l : List UInt8) : Value := metaV (getN g l 0) (getN g l 1) (getN g l 2) (getN g l 3)

theorem mbody_len (t r f p : Nat) : (mbody t r f p).length = 24 := by simp [mbody, leb_length]
theorem mpage_len (t r f p : Nat) : (mpage t r f p).length = 256 := pageB_len (by rw [mbody_len]; omega)

theorem fld_leb (a b : List UInt8) (n i v : Nat) (hi : a.length = i) (hv : v < 2 ^ (8 * n)) : fld (a ++ (leb n v ++ b)) i n = v := by
  unfold fld
  rw [drop_left _ _ hi, take_left _ _ (leb_length n v), unleb_leb n v hv]
theorem mbody_six {t r f p : Nat} (ht : t < 281474976710656) (hr : r < 281474976710656) (hf : f < 281474976710656) (hp : p < 281474976710656) :
    six (mbody t r f p) 0 = t ∧ six (mbody t r f p) 1 = r ∧ six (mbody t r f p) 2 = f ∧ six (mbody t r f p) 3 = p := by
  refine ⟨?_, ?_, ?_, ?_⟩
  · exact fld_leb [] _ 6 0 t rfl ht
  · exact fld_leb (leb 6 t) _ 6 6 r (leb_length 6 t) hr
  · have := fld_leb (leb 6 t ++ leb 6 r) (leb 6 p) 6 12 f (by simp [leb_length]) hf
    simpa [six, mbody] using this
  · have := fld_leb (leb 6 t ++ leb 6 r ++ leb 6 f) [] 6 18 p (by simp [leb_length]) hp
    simpa [six, mbody] using this

theorem mpage_open (t r f p : Nat) : openE ((t % 2 : Nat) : Int) (mpage t r f p) = 0 ∧ openK ((t % 2 : Nat) : Int) (mpage t r f p) = 1 ∧ openN ((t % 2 : Nat) : Int) (mpage t r f p) = 0 ∧ openS ((t % 2 : Nat) : Int) (mpage t r f p) = mbody t r f p := by
  have hl : (mbody t r f p).length ≤ 240 := by rw [mbody_len]; omega
  have hi : t % 2 < 4294967296 := by omega
  have h1 : openE ((t % 2 : Nat) : Int) (mpage t r f p) = 0 := open_ok (pageB_len hl) (page_sum hl) (by unfold mpage; rw [page_id hi, page_kind (by omega), page_size hl]; omega) (page_tail hl)
  refine ⟨h1, ?_, ?_, ?_⟩
  · rw [openK, if_pos h1]; unfold mpage; exact page_kind (by omega)
  · rw [openN, if_pos h1]; unfold mpage; exact page_next (by omega)
  · rw [openS, if_pos h1, mpage, page_size hl, page_body, List.take_left]
theorem mpage_get {t r f p : Nat} (ht : t < 281474976710656) : GetOK ((t % 2 : Nat) : Int) (mpage t r f p) := by
  obtain ⟨h1, h2, h3, h4⟩ := mpage_open t r f p
  refine ⟨h1, h2, h3, by rw [h4, mbody_len], ?_⟩
  rw [h4, show six (mbody t r f p) 0 = t from fld_leb [] _ 6 0 t rfl ht]
  omega
theorem put_get {t r f p : Int} (h : MetaOK t r f p) : getE (t % 2) (putB t r f p) = 0 ∧ getV (t % 2) (putB t r f p) = metaV t r f p ∧ getN (t % 2) (putB t r f p) 0 = t := by
  obtain ⟨⟨ht0, ht⟩, ⟨hr0, hr⟩, ⟨hf0, hf⟩, ⟨hp0, hp⟩⟩ := h
  obtain ⟨t, rfl⟩ := Int.eq_ofNat_of_zero_le ht0
  obtain ⟨r, rfl⟩ := Int.eq_ofNat_of_zero_le hr0
  obtain ⟨f, rfl⟩ := Int.eq_ofNat_of_zero_le hf0
  obtain ⟨p, rfl⟩ := Int.eq_ofNat_of_zero_le hp0
  have hok : MetaOK t r f p := ⟨⟨ht0, ht⟩, ⟨hr0, hr⟩, ⟨hf0, hf⟩, ⟨hp0, hp⟩⟩
  have e2 : ((t : Int) % 2) = ((t % 2 : Nat) : Int) := by omega
  have hg : GetOK ((t % 2 : Nat) : Int) (mpage t r f p) := mpage_get (by omega)
  obtain ⟨h1, h2, h3, h4⟩ := mpage_open t r f p
  obtain ⟨s0, s1, s2, s3⟩ := mbody_six (t := t) (r := r) (f := f) (p := p) (by omega) (by omega) (by omega) (by omega)
  rw [putB, if_pos hok, e2]
  simp only [Int.toNat_natCast]
  refine ⟨?_, ?_, ?_⟩
  · rw [getE, if_neg (fun h => h h1), if_pos hg]
  · unfold getV getN
    rw [if_pos hg, if_pos hg, if_pos hg, if_pos hg, h4, s0, s1, s2, s3]
  · rw [getN, if_pos hg, h4, s0]

theorem get_bad {g : Int} {l : List UInt8} (h : ¬ GetOK g l) : getV g l = metaV 0 0 0 0 ∧ getE g l ≠ 0 := by
  unfold getV getN getE
  refine ⟨by rw [if_neg h, if_neg h, if_neg h, if_neg h], ?_⟩
  by_cases h1 : openE g l = 0
  · rw [if_neg (fun h => h h1), if_neg h]; omega
  · rw [if_pos h1]; exact h1
theorem getE_ok {g : Int} {l : List UInt8} (h : GetOK g l) : getE g l = 0 := by unfold getE; rw [if_neg (fun h2 => h2 h.1), if_pos h]
end Go.Proofs.YthcpjpebahiikaaDoor

namespace Go.Proofs.YthcpjpebahiikaaDoor
open Go.RowKit Go.Lib

theorem leb_snoc : ∀ (j u : Nat), leb (j + 1) u = leb j u ++ [(u / 2 ^ (8 * j) % 256).toUInt8]
  | 0, u => by simp [leb]
  | j + 1, u => by
    rw [leb, leb_snoc j (u / 256), leb, List.cons_append, Nat.div_div_eq_div_mul, show 8 * (j + 1) = 8 + 8 * j by omega, Nat.pow_add]

theorem pow_div (u j : Nat) : u / 2 ^ (8 * j) / 256 = u / 2 ^ (8 * (j + 1)) := by
  rw [Nat.div_div_eq_div_mul, show 8 * (j + 1) = 8 * j + 8 by omega, Nat.pow_add]

set_option maxRecDepth 1000000 in
set_option maxHeartbeats 400000 in
theorem refFix_bad (v n : Int) (w : World) (h : n < 1 ∨ 7 < n ∨ v < 0) : Calls Tryd.prog 23 #[.int .i64 v, .int .i64 n] w fun e w' => e = .returned (.tuple #[.string ByteArray.empty, .int .i64 1]) ∧ w = w' := by
  by_cases h1 : n < 1
  · go_enter Tryd.func23, Tryd.ntmps23
    go_wp2
    go_ret2
    exact ⟨rfl, rfl⟩
  · by_cases h2 : 7 < n
    · go_enter Tryd.func23, Tryd.ntmps23
      go_wp2
      go_ret2
      exact ⟨rfl, rfl⟩
    · have h3 : v < 0 := by omega
      go_enter Tryd.func23, Tryd.ntmps23
      go_wp2
      go_ret2
      exact ⟨rfl, rfl⟩

set_option maxRecDepth 1000000 in
set_option maxHeartbeats 800000 in
theorem refFix_nat (u n : Nat) (w : World) (h1 : 1 ≤ n) (h7 : n ≤ 7) (hu : u ≤ 9223372036854775807) :
    Calls Tryd.prog 23 #[.int .i64 u, .int .i64 n] w fun e w' => e = .returned (.tuple #[.string ⟨(if u < 2 ^ (8 * n) then leb n u else []).toArray⟩, .int .i64 (if u < 2 ^ (8 * n) then 0 else 1)]) ∧ Below w.heap.size w w' := by
  go_enter Tryd.func23, Tryd.ntmps23
  go_wp2
  go_loopw [0, 6, 7] (fun x b i wr => ∃ j : Nat, j ≤ n ∧ i = .int .i64 j ∧ x = .int .i64 ((u / 2 ^ (8 * j) : Nat) : Int) ∧ Row wr w.heap.size b (leb j u) ∧ Below w.heap.size w wr) (fun _ _ i _ => n - (intOf i).toNat)
  case atStart => exact ⟨0, by omega, rfl, by simp, Row.nil_ _ _, Below.refl _ _⟩
  case round =>
    obtain ⟨j, hj, rfl, rfl, hr, hbl⟩ := hrel
    have hbs := hbl.size
    have hlen := leb_length j u
    have hle : u / 2 ^ (8 * j) ≤ 9223372036854775807 := Nat.le_trans (Nat.div_le_self _ _) hu
    by_cases hlt : j < n
    · have HL := Lib.hid (leb_snoc j u)
      have HP := Lib.hid (pow_div u j)
      have hml : (leb j u).length ≤ 70368744177664 := by omega
      generalize u / 2 ^ (8 * j) = x at *
      clear hlen
      go_wp2_with (at_builtin; refine append_byte rfl _ _ rfl w.heap.size wr u6 _ rfl hr _ (x % 256) rfl (by omega) (by omega) hml (by omega) ?_; intro b' w1 hr1 hb1)
      rw [← HL.out] at hr1
      go_roundw
      case rel => exact ⟨j + 1, by omega, by go_num, by rw [← HP.out]; simp, hr1, hbl.trans hb1⟩
      case measure => simp [intOf]; omega
    · obtain rfl : j = n := by omega
      have hstr := row_string hr
      by_cases hb : u < 2 ^ (8 * j)
      · have h0 : u / 2 ^ (8 * j) = 0 := Nat.div_eq_of_lt hb
        have HB := Lib.hid hb
        clear hb
        generalize u / 2 ^ (8 * j) = x at *
        subst h0
        go_wp2
        go_ret2
        exact ⟨by first | rfl | (rw [if_pos HB.out, if_pos HB.out]; rfl), hbl⟩
      · have h0 : 0 < u / 2 ^ (8 * j) := Nat.div_pos (by omega) (Nat.two_pow_pos _)
        have HB := Lib.hid hb
        clear hb
        generalize u / 2 ^ (8 * j) = x at *
        go_wp2
        go_ret2
        exact ⟨by first | rfl | (rw [if_neg HB.out, if_neg HB.out]; rfl), hbl⟩

theorem refFix_any (v n : Int) (w : World) (hv : v ≤ 9223372036854775807) :
    Calls Tryd.prog 23 #[.int .i64 v, .int .i64 n] w fun e w' => e = .returned (.tuple #[.string ⟨(fixB v n).toArray⟩, .int .i64 (fixE v n)]) ∧ Below w.heap.size w w' := by
  unfold fixB fixE
  by_cases h : n < 1 ∨ 7 < n ∨ v < 0
  · rw [if_neg (by omega), if_neg (by omega)]
    refine (refFix_bad v n w h).mono ?_
    rintro e w' ⟨rfl, rfl⟩
    exact ⟨rfl, Below.refl _ _⟩
  · obtain ⟨k, rfl⟩ : ∃ k : Nat, n = k := ⟨n.toNat, by omega⟩
    obtain ⟨u, rfl⟩ : ∃ u : Nat, v = u := ⟨v.toNat, by omega⟩
    simp only [Int.toNat_natCast]
    have ec : ((u : Int) < 2 ^ (8 * k)) ↔ u < 2 ^ (8 * k) := by
      rw [show ((2 : Int) ^ (8 * k)) = ((2 ^ (8 * k) : Nat) : Int) by simp]
      omega
    have hf := refFix_nat u k w (by omega) (by omega) (by omega)
    by_cases hb : u < 2 ^ (8 * k)
    · rw [if_pos hb, if_pos hb] at hf
      rw [if_pos ⟨by omega, by omega, by omega, ec.2 hb⟩, if_pos ⟨by omega, by omega, by omega, ec.2 hb⟩]
      exact hf
    · rw [if_neg hb, if_neg hb] at hf
      rw [if_neg (fun h => hb (ec.1 h.2.2.2)), if_neg (fun h => hb (ec.1 h.2.2.2))]
      exact hf



theorem unleb_cons (c : UInt8) (l : List UInt8) : unleb (c :: l) = c.toNat + 256 * unleb l := rfl

set_option maxRecDepth 1000000 in
set_option maxHeartbeats 800000 in
theorem refUnfix_ok (s : ByteArray) (a n : Nat) (w : World) (h1 : 1 ≤ n) (h7 : n ≤ 7) (hs : s.size ≤ 9223372036854775807) (h : a + n ≤ s.size) :
    Calls Tryd.prog 28 #[.string s, .int .i64 a, .int .i64 n] w fun e w' => e = .returned (.tuple #[.int .i64 (unleb ((s.data.toList.drop a).take n)), .int .i64 0]) ∧ w = w' := by
  have hsn : n ≤ s.size := by omega
  have h2 : (a : Int) ≤ (s.size : Int) - (n : Int) := by omega
  have HU := Lib.hid (rfl : unleb ((s.data.toList.drop a).take n) = unleb ((s.data.toList.drop a).take n))
  go_enter Tryd.func28, Tryd.ntmps28
  go_wp2
  go_loop [8, 9] (fun v i => ∃ (k : Nat) (m : Int), k ≤ n ∧ i = .int .i64 m ∧ m + 1 = k ∧ v = .int .i64 (unleb (((s.data.toList.drop a).take n).drop k))) (fun _ i => (intOf i + 1).toNat)
  case atStart => exact ⟨n, n - 1, Nat.le_refl _, rfl, by omega, by rw [List.drop_eq_nil_of_le (by simp; omega)]; rfl⟩
  case round =>
    obtain ⟨k, m, hk, rfl, hm, rfl⟩ := hrel
    by_cases h0 : k = 0
    · subst h0
      obtain rfl : m = -1 := by omega
      rw [List.drop_zero]
      go_wp2
      go_ret2
      exact ⟨rfl, rfl⟩
    · obtain ⟨j, rfl⟩ : ∃ j, k = j + 1 := ⟨k - 1, by omega⟩
      obtain rfl : m = (j : Int) := by omega
      have hajs : a + j < s.size := by omega
      have hd : unleb (((s.data.toList.drop a).take n).drop j) = s[a + j].toNat + 256 * unleb (((s.data.toList.drop a).take n).drop (j + 1)) := by
        have hlen : j < ((s.data.toList.drop a).take n).length := by simp; omega
        rw [List.drop_eq_getElem_cons hlen, unleb_cons]
        congr 2
        simp
        rfl
      have hlt := unleb_lt (((s.data.toList.drop a).take n).drop (j + 1))
      have hl2 : (((s.data.toList.drop a).take n).drop (j + 1)).length ≤ 6 := by simp; omega
      have hT : unleb (((s.data.toList.drop a).take n).drop (j + 1)) ≤ 281474976710656 := by
        have : (2 : Nat) ^ (8 * (((s.data.toList.drop a).take n).drop (j + 1)).length) ≤ 2 ^ 48 := Nat.pow_le_pow_right (by decide) (by omega)
        have e : (2 : Nat) ^ 48 = 281474976710656 := by decide
        omega
      have hc := s[a + j].toNat_lt
      have hst : ((unleb (((s.data.toList.drop a).take n).drop (j + 1)) : Nat) : Int) * 256 + (s[a + j].toNat : Int) = ((unleb (((s.data.toList.drop a).take n).drop j) : Nat) : Int) := by omega
      have HST := Lib.hid hst
      clear hd hlt hl2 hst
      generalize unleb (((s.data.toList.drop a).take n).drop (j + 1)) = T at *
      go_wp2
      exact ⟨⟨j, (j : Int) - 1, by omega, rfl, by omega, by rw [HST.out]⟩, by simp [intOf]⟩

end Go.Proofs.YthcpjpebahiikaaDoor

namespace Go.Proofs.YthcpjpebahiikaaDoor
open Go.RowKit Go.Lib

theorem i64_xor_nat (a b : Nat) (ha : a < 4294967296) (hb : b < 4294967296) : bits .xor .i64 (a : Int) (b : Int) = ((a ^^^ b : Nat) : Int) := by
  have hx := xor_lt32 ha hb
  have h1 : (BitVec.ofInt 64 (a : Int)).toNat = a := by
    rw [BitVec.ofInt_natCast, BitVec.toNat_ofNat]; exact Nat.mod_eq_of_lt (by omega)
  have h2 : (BitVec.ofInt 64 (b : Int)).toNat = b := by
    rw [BitVec.ofInt_natCast, BitVec.toNat_ofNat]; exact Nat.mod_eq_of_lt (by omega)
  show IntKind.i64.wrap ((BitVec.ofInt 64 (a : Int) ^^^ BitVec.ofInt 64 (b : Int)).toNat : Int) = _
  rw [BitVec.toNat_xor, h1, h2, IntKind.wrap_i64]
  omega

set_option maxRecDepth 1000000 in
set_option maxHeartbeats 800000 in
theorem refCrc_any (s : ByteArray) (w : World) (hs : s.size ≤ 9223372036854775806) :
    Calls Tryd.prog 41 #[.string s] w fun e w' => e = .returned (.int .i64 (crcB s.data.toList)) ∧ w = w' := by
  go_enter Tryd.func41, Tryd.ntmps41
  go_wp2
  go_loop [3, 4] (fun x i => ∃ j : Nat, j ≤ s.size ∧ i = .int .i64 j ∧ x = .int .i64 (crcFrom 4294967295 (s.data.toList.take j))) (fun _ i => s.size - (intOf i).toNat)
  case atStart => exact ⟨0, Nat.zero_le _, rfl, rfl⟩
  case round =>
    obtain ⟨j, hj, rfl, rfl⟩ := hrel
    have hlt := crcFrom_lt (s.data.toList.take j) 4294967295 (by decide)
    by_cases hjs : j < s.size
    · have hc := s[j].toNat_lt
      have HT : Hid (steps 8 (crcFrom 4294967295 (s.data.toList.take j) ^^^ s[j].toNat) = crcFrom 4294967295 (s.data.toList.take (j + 1))) := by show _ = _; rw [take_bytes s j hjs, crcFrom_append]; rfl
      have hx := i64_xor_nat _ s[j].toNat hlt (by omega)
      have hxl : crcFrom 4294967295 (s.data.toList.take j) ^^^ s[j].toNat < 4294967296 := xor_lt32 hlt (by omega)
      generalize crcFrom 4294967295 (s.data.toList.take j) = y at *
      have HX := Lib.hid hx
      clear hx
      go_wp2_with fail
      rw [HX.out]
      generalize y ^^^ s[j].toNat = z at *
      go_loop [3, 5] (fun x i => ∃ k : Nat, k ≤ 8 ∧ i = .int .i64 k ∧ x = .int .i64 (steps k z)) (fun _ i => 8 - (intOf i).toNat)
      case atStart => exact ⟨0, Nat.zero_le _, rfl, rfl⟩
      case round =>
        obtain ⟨k, hk, rfl, rfl⟩ := hrel
        have hl2 := steps_lt k z hxl
        have hss := steps_succ k z
        have HY : Hid (k = 8 → steps k z = crcFrom 4294967295 (s.data.toList.take (j + 1))) := by show _ → _; rintro rfl; exact HT.out
        generalize steps k z = t at *
        by_cases hk8 : k < 8
        · by_cases hp : t % 2 = 1
          · have h1 : step1 t = t / 2 ^^^ 3988292384 := by unfold step1; rw [if_pos hp]
            have hx2 := i64_xor_nat (t / 2) 3988292384 (by omega) (by decide)
            rw [← h1, ← hss] at hx2
            have HX2 := Lib.hid hx2
            clear hx2 h1 hss
            have hte : ((t : Int) % 2 == 1) = true := by rw [show (t : Int) % 2 = 1 by omega]; rfl
            go_wp2_with fail
            have e2 : (t : Int) / 2 = ((t / 2 : Nat) : Int) := by omega
            have e3 : bits .xor .i64 ((t : Int) / 2) 3988292384 = ((steps (k + 1) z : Nat) : Int) := by rw [e2]; exact HX2.out
            exact ⟨⟨k + 1, by omega, by go_num, by rw [e3]⟩, by simp [intOf]; omega⟩
          · have h1 : step1 t = t / 2 := by unfold step1; rw [if_neg hp]
            rw [h1] at hss
            have hte : ((t : Int) % 2 == 1) = false := by rw [show (t : Int) % 2 = 0 by omega]; rfl
            have HSS := Lib.hid hss
            clear h1 hss
            go_wp2_with fail
            exact ⟨⟨k + 1, by omega, by go_num, by rw [HSS.out]; go_num⟩, by simp [intOf]; omega⟩
        · obtain rfl : k = 8 := by omega
          have hy := HY.out rfl
          have HYY := Lib.hid hy
          clear hss hy
          go_wp2
          go_round
          case rel => exact ⟨j + 1, by omega, by go_num, by rw [HYY.out]⟩
          case measure => simp [intOf]; omega
    · have hjj : s.data.toList.take j = s.data.toList := List.take_of_length_le (by simp; omega)
      rw [hjj] at hlt
      have HJ := Lib.hid hjj
      clear hjj
      have hz : ((4294967295 - crcFrom 4294967295 s.data.toList : Nat) : Int) = 4294967295 - (crcFrom 4294967295 s.data.toList : Int) := by omega
      have hcb : crcB s.data.toList = 4294967295 - crcFrom 4294967295 s.data.toList := rfl
      rw [← hcb] at hz
      have HZ := Lib.hid hz
      clear hcb hz
      rw [HJ.out]
      generalize crcFrom 4294967295 s.data.toList = y at *
      go_wp2
      rw [← HZ.out]
      go_ret
      exact ⟨rfl, rfl⟩
end Go.Proofs.YthcpjpebahiikaaDoor
