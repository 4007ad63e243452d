/-
  Walks over package num: the check sum. Plain mathematics: one byte that is changed changes the sum.
-/
import Derived.Test.YthcpjpebahiikaaDoorMg3
import Derived.Test.YthcpjpebahiikaaDoorMg5
namespace Go.Proofs.YthcpjpebahiikaaDoor
open Go.RowKit Go.Lib

/-- One of the eight steps of a byte, and all of them; a byte; bytes; the sum. -/
def step1 (x : Nat) : Nat := if x % 2 = 1 then x / 2 ^^^ 3988292384 else x / 2
def steps : Nat → Nat → Nat
  | 0, x => x
  | k + 1, x => steps k (step1 x)
def crcByte (x : Nat) (c : UInt8) : Nat := steps 8 (x ^^^ c.toNat)
def crcFrom (x : Nat) (l : List UInt8) : Nat := l.foldl crcByte x
def crcB (l : List UInt8) : Nat := 4294967295 - crcFrom 4294967295 l

theorem xor_lt32 {a b : Nat} (ha : a < 4294967296) (hb : b < 4294967296) : a ^^^ b < 4294967296 := Nat.xor_lt_two_pow (n := 32) ha hb
theorem step1_lt {x : Nat} (h : x < 4294967296) : step1 x < 4294967296 := by
  unfold step1
  split
  · exact xor_lt32 (by omega) (by decide)
  · omega
theorem steps_lt : ∀ (k x : Nat), x < 4294967296 → steps k x < 4294967296
  | 0, _, h => h
  | k + 1, _, h => steps_lt k _ (step1_lt h)
theorem steps_succ : ∀ (k x : Nat), steps (k + 1) x = step1 (steps k x)
  | 0, _ => rfl
  | k + 1, x => steps_succ k (step1 x)
theorem crcByte_lt {x : Nat} {c : UInt8} (h : x < 4294967296) : crcByte x c < 4294967296 := steps_lt 8 _ (xor_lt32 h (by have := c.toNat_lt; omega))
theorem crcFrom_lt : ∀ (l : List UInt8) (x : Nat), x < 4294967296 → crcFrom x l < 4294967296
  | [], _, h => h
  | _ :: r, _, h => crcFrom_lt r _ (crcByte_lt h)

set_option maxRecDepth 100000 in
theorem stir_step (x : Nat) (h : x < 4294967296) : bits .xor .u32 ((x : Int) / 2) (bits .and .u32 3988292384 (-(bits .and .u32 (x : Int) 1) % 4294967296)) = ((step1 x : Nat) : Int) := by
  have e1 : bits .and .u32 (x : Int) 1 = ((x % 2 : Nat) : Int) := by
    have := u32_and_nat x 1 h (by decide)
    rw [show ((1 : Nat) : Int) = 1 from rfl] at this
    rw [this, nat_mask1]
  rw [e1]
  have e2 : (x : Int) / 2 = ((x / 2 : Nat) : Int) := by omega
  rw [e2]
  unfold step1
  by_cases hp : x % 2 = 1
  · have e3 : -((x % 2 : Nat) : Int) % 4294967296 = ((4294967295 : Nat) : Int) := by omega
    have e4 : bits .and .u32 3988292384 ((4294967295 : Nat) : Int) = ((3988292384 : Nat) : Int) := by decide +kernel
    rw [e3, e4, if_pos hp]
    exact u32_xor_nat _ _ (by omega) (by decide)
  · have e3 : -((x % 2 : Nat) : Int) % 4294967296 = ((0 : Nat) : Int) := by omega
    have e4 : bits .and .u32 3988292384 ((0 : Nat) : Int) = ((0 : Nat) : Int) := by decide +kernel
    rw [e3, e4, if_neg hp, u32_xor_nat _ _ (by omega) (by decide), Nat.xor_zero]

set_option maxRecDepth 1000000 in
set_option maxHeartbeats 400000 in
theorem stir_any (x : Nat) (w : World) (h : x < 4294967296) : Calls Tryd.prog 55 #[.int .u32 x] w fun e w' => e = .returned (.int .u32 (steps 8 x)) ∧ w = w' := by
  go_enter Tryd.func55, Tryd.ntmps55
  go_wp2
  go_loop [0, 3] (fun v i => ∃ k : Nat, k ≤ 8 ∧ i = .int .i64 k ∧ v = .int .u32 (steps k x)) (fun _ i => 8 - (intOf i).toNat)
  case atStart => exact ⟨0, by omega, rfl, rfl⟩
  case round =>
    obtain ⟨k, hk, rfl, rfl⟩ := hrel
    have hst := stir_step (steps k x) (steps_lt k x h)
    rw [← steps_succ] at hst
    have HST := Lib.hid hst
    have hlt := steps_lt k x h
    generalize hy : steps k x = y at *
    have HY := Lib.hid hy
    clear hst hy
    by_cases hk8 : k < 8
    · go_wp2
      go_round
      case rel => exact ⟨k + 1, by omega, by go_num, by rw [HST.out]⟩
      case measure => simp [intOf]; omega
    · obtain rfl : k = 8 := by omega
      go_wp2
      rw [HY.out]
      go_ret
      exact ⟨rfl, rfl⟩

theorem crc_byte (x c : Nat) (h : x < 4294967296) (hc : c < 256) : bits .xor .u32 (x : Int) ((c : Int) % 4294967296) = ((x ^^^ c : Nat) : Int) := by
  rw [show ((c : Int) % 4294967296) = (c : Int) by omega]
  exact u32_xor_nat _ _ h (by omega)

theorem ones_xor (n b : Nat) (hb : b < 2 ^ n) : (2 ^ n - 1) ^^^ b = 2 ^ n - 1 - b := by
  refine Nat.eq_of_testBit_eq fun i => ?_
  rw [show 2 ^ n - 1 - b = 2 ^ n - (b + 1) by omega, Nat.testBit_two_pow_sub_succ hb, Nat.testBit_xor, Nat.testBit_two_pow_sub_one]
  by_cases hi : i < n
  · simp [hi]
  · have : b.testBit i = false := Nat.testBit_lt_two_pow (Nat.lt_of_lt_of_le hb (Nat.pow_le_pow_right (by decide) (by omega)))
    simp [hi, this]

theorem crc_not (y : Nat) (h : y < 4294967296) : wrap64 (bits .xor .u32 IntKind.u32.max (y : Int)) = ((4294967295 - y : Nat) : Int) := by
  have e1 : IntKind.u32.max = ((4294967295 : Nat) : Int) := by decide +kernel
  have e2 : (4294967295 : Nat) = 2 ^ 32 - 1 := by decide
  rw [e1, u32_xor_nat _ _ (by decide) h, e2, ones_xor 32 y h]
  unfold wrap64
  omega

def flat (l : List ByteArray) : List UInt8 := l.flatMap fun s => s.data.toList
theorem flat_snoc (l : List ByteArray) (s : ByteArray) : flat (l ++ [s]) = flat l ++ s.data.toList := by simp [flat]
theorem crcFrom_append (x : Nat) (a b : List UInt8) : crcFrom x (a ++ b) = crcFrom (crcFrom x a) b := List.foldl_append

theorem take_bytes (s : ByteArray) (j : Nat) (h : j < s.size) : s.data.toList.take (j + 1) = s.data.toList.take j ++ [s[j]] := by
  rw [List.take_succ_eq_append_getElem (by simpa using h)]
  rfl

set_option maxRecDepth 1000000 in
set_option maxHeartbeats 400000 in
theorem crc_any (v : Value) (l : List ByteArray) (w : World) (hr : Reads1 w w.heap.size v (l.map Value.string)) (hl : l.length ≤ 1099511627776) (hsz : ∀ s ∈ l, s.size ≤ 9223372036854775807) :
    Calls Tryd.prog 39 #[v] w fun e w' => e = .returned (.int .i64 (crcB (flat l))) ∧ w = w' := by
  obtain ⟨A, c, rfl, hc⟩ := hr
  simp only [List.length_map] at hc ⊢
  go_enter Tryd.func39, Tryd.ntmps39
  go_wp2
  go_loop [3, 9] (fun x i => ∃ k : Nat, k ≤ l.length ∧ i = .int .i64 k ∧ x = .int .u32 (crcFrom 4294967295 (flat (l.take k)))) (fun _ i => l.length - (intOf i).toNat)
  case atStart => exact ⟨0, Nat.zero_le _, rfl, rfl⟩
  case round =>
    obtain ⟨k, hk, rfl, rfl⟩ := hrel
    have hlt0 := crcFrom_lt (flat (l.take k)) 4294967295 (by decide)
    by_cases hlt : k < l.length
    · obtain ⟨b, off, rfl, hbb, hcell⟩ := hc (by omega)
      have hck : w.cell? ⟨b, off + k, none⟩ = some (.string l[k]) := hcell k _ (by simp [hlt])
      have hsk := hsz l[k] (by simp)
      have HS : Hid (flat (l.take (k + 1)) = flat (l.take k) ++ l[k].data.toList) := by show _ = _; rw [take_snoc1 l k hlt, flat_snoc]
      generalize l[k] = s at *
      clear hc hcell
      generalize hx : crcFrom 4294967295 (flat (l.take k)) = x0 at *
      have HX := Lib.hid hx
      clear hx
      go_wp2
      go_loop [3, 15] (fun x i => ∃ j : Nat, j ≤ s.size ∧ i = .int .i64 j ∧ x = .int .u32 (crcFrom x0 (s.data.toList.take j))) (fun _ i => s.size - (intOf i).toNat)
      case atStart => exact ⟨0, Nat.zero_le _, rfl, rfl⟩
      case round =>
        obtain ⟨j, hj, rfl, rfl⟩ := hrel
        have hlt1 := crcFrom_lt (s.data.toList.take j) x0 hlt0
        by_cases hjs : j < s.size
        · have HT : Hid (steps 8 (crcFrom x0 (s.data.toList.take j) ^^^ s[j].toNat) = crcFrom x0 (s.data.toList.take (j + 1))) := by show _ = _; rw [take_bytes s j hjs, crcFrom_append]; rfl
          have hxl : crcFrom x0 (s.data.toList.take j) ^^^ s[j].toNat < 4294967296 := xor_lt32 hlt1 (by have := s[j].toNat_lt; omega)
          have hcb := crc_byte _ s[j].toNat hlt1 s[j].toNat_lt
          generalize crcFrom x0 (s.data.toList.take j) = y at *
          have HCB := Lib.hid hcb
          clear hcb
          go_wp2_with fail
          rw [HCB.out]
          refine (stir_any _ _ hxl).mono ?_
          rintro e w' ⟨rfl, rfl⟩
          rw [HT.out]
          go_wp2
          go_round
          case rel => exact ⟨j + 1, by omega, by go_num, rfl⟩
          case measure => simp [intOf]; omega
        · have hjj : s.data.toList.take j = s.data.toList := List.take_of_length_le (by simp; omega)
          have HE : Hid (crcFrom x0 (s.data.toList.take j) = crcFrom 4294967295 (flat (l.take (k + 1)))) := by show _ = _; rw [hjj, HS.out, crcFrom_append, HX.out]
          clear hjj
          generalize crcFrom x0 (s.data.toList.take j) = y at *
          go_wp2
          go_round
          case rel => exact ⟨k + 1, by omega, by go_num, by rw [HE.out]⟩
          case measure => simp [intOf]; omega
    · have hkl : k = l.length := by omega
      have HE : Hid (crcFrom 4294967295 (flat (l.take k)) = crcFrom 4294967295 (flat l)) := by show _ = _; rw [hkl, List.take_length]
      have hnot := crc_not _ hlt0
      have hcb : 4294967295 - crcFrom 4294967295 (flat (l.take k)) = crcB (flat l) := by rw [HE.out]; rfl
      rw [hcb] at hnot
      have HNOT := Lib.hid hnot
      clear hkl hnot hcb
      generalize crcFrom 4294967295 (flat (l.take k)) = y at *
      go_wp2
      rw [HNOT.out]
      go_ret
      exact ⟨rfl, rfl⟩

end Go.Proofs.YthcpjpebahiikaaDoor

namespace Go.Proofs.YthcpjpebahiikaaDoor
open Go.Lib

theorem step1_inj {x y : Nat} (hx : x < 4294967296) (hy : y < 4294967296) (h : step1 x = step1 y) : x = y := by
  have top : ∀ u v : Nat, u < 2147483648 → v < 2147483648 → u ^^^ 3988292384 ≠ v := fun u v hu hv e => by
    have h1 := congrArg (fun n => n.testBit 31) e
    simp only [Nat.testBit_xor] at h1
    rw [Nat.testBit_lt_two_pow (show u < 2 ^ 31 from hu), Nat.testBit_lt_two_pow (show v < 2 ^ 31 from hv)] at h1
    exact absurd h1 (by decide)
  have inj : ∀ u v : Nat, u ^^^ 3988292384 = v ^^^ 3988292384 → u = v := fun u v e => by
    have h1 := congrArg (fun n => n ^^^ 3988292384) e
    simpa [Nat.xor_assoc] using h1
  unfold step1 at h
  split at h
  · split at h
    · have := inj _ _ h
      omega
    · exact absurd h (top _ _ (by omega) (by omega))
  · split at h
    · exact absurd h.symm (top _ _ (by omega) (by omega))
    · omega

theorem steps_inj : ∀ (k : Nat) {x y : Nat}, x < 4294967296 → y < 4294967296 → steps k x = steps k y → x = y
  | 0, _, _, _, _, h => h
  | k + 1, _, _, hx, hy, h => step1_inj hx hy (steps_inj k (step1_lt hx) (step1_lt hy) h)

theorem crcByte_inj {x y : Nat} {c : UInt8} (hx : x < 4294967296) (hy : y < 4294967296) (h : crcByte x c = crcByte y c) : x = y := by
  have hc := c.toNat_lt
  have h1 := steps_inj 8 (xor_lt32 hx (by omega)) (xor_lt32 hy (by omega)) h
  have h2 := congrArg (fun n => n ^^^ c.toNat) h1
  simpa [Nat.xor_assoc] using h2
theorem crcByte_ne {x : Nat} {c d : UInt8} (hx : x < 4294967296) (hcd : c ≠ d) : crcByte x c ≠ crcByte x d := fun h => by
  have hc := c.toNat_lt
  have hd := d.toNat_lt
  have h1 := steps_inj 8 (xor_lt32 hx (by omega)) (xor_lt32 hx (by omega)) h
  have h2 := congrArg (fun n => x ^^^ n) h1
  simp only [← Nat.xor_assoc, Nat.xor_self, Nat.zero_xor] at h2
  exact hcd (UInt8.toNat_inj.1 h2)
theorem crcFrom_inj : ∀ (l : List UInt8) {x y : Nat}, x < 4294967296 → y < 4294967296 → crcFrom x l = crcFrom y l → x = y
  | [], _, _, _, _, h => h
  | _ :: r, _, _, hx, hy, h => crcByte_inj hx hy (crcFrom_inj r (crcByte_lt hx) (crcByte_lt hy) h)

theorem crcB_change (l : List UInt8) (i : Nat) (c d : UInt8) (hi : l[i]? = some c) (hcd : c ≠ d) : crcB (l.set i d) ≠ crcB l := by
  have hlen : i < l.length := (List.getElem?_eq_some_iff.1 hi).1
  have hl : l = l.take i ++ c :: l.drop (i + 1) := by
    have h1 := List.drop_eq_getElem_cons hlen
    have h2 : l[i] = c := (List.getElem?_eq_some_iff.1 hi).2
    rw [h2] at h1
    rw [← h1, List.take_append_drop]
  have hs : l.set i d = l.take i ++ d :: l.drop (i + 1) := List.set_eq_take_append_cons_drop ▸ (by rw [if_pos hlen])
  intro h
  unfold crcB at h
  have h1 := crcFrom_lt (l.set i d) 4294967295 (by decide)
  have h2 := crcFrom_lt l 4294967295 (by decide)
  have h3 : crcFrom 4294967295 (l.set i d) = crcFrom 4294967295 l := by omega
  rw [hs] at h3
  conv at h3 => rhs; rw [hl]
  rw [crcFrom_append, crcFrom_append] at h3
  have hx := crcFrom_lt (l.take i) 4294967295 (by decide)
  exact crcByte_ne hx hcd.symm (crcFrom_inj (l.drop (i + 1)) (crcByte_lt hx) (crcByte_lt hx) h3)

theorem crcB_lt (l : List UInt8) : crcB l < 4294967296 := by unfold crcB; omega

end Go.Proofs.YthcpjpebahiikaaDoor
