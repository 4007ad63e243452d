/-
  Walks over package num: the check sum. Plain mathematics: one byte that is changed changes the sum. A page's bytes, as lists: nothing of the program stands here. Walks over package page, and the document's own: small words; the sum of one text.
-/
import Derived.Test.YtmcfldcpmjdfbaaGreatDoorMg10
import Derived.Test.YtmcfldcpmjdfbaaGreatDoorMg16
import Derived.Test.YtmcfldcpmjdfbaaGreatDoorMg1
import Derived.Test.YtmcfldcpmjdfbaaGreatDoorMg15
import Derived.Deep.QuietTactic
import Derived.BigQuiet
import Derived.Deep.RegionHeld3
import Derived.StillTailTactics
namespace Go.Proofs.YtmcfldcpmjdfbaaGreatDoor
open Go.RowKit Go.Lib

/-- One of the eight steps of a byte, and all of them; a byte; bytes; the sum. -/
def step1 (x : Nat) : Nat := if x % 2 = 1 then x / 2 ^^^ 3988292384 else x / 2
def steps : Nat → Nat → Nat
  | 0, x => x
  | k + 1, x => steps k (step1 x)
def crcByte (x : Nat) (c : UInt8) : Nat := steps 8 (x ^^^ c.toNat)
def crcFrom (x : Nat) (l : List UInt8) : Nat := l.foldl crcByte x
def crcB (l : List UInt8) : Nat := 4294967295 - crcFrom 4294967295 l

theorem xor_lt32 {a b : Nat} (ha : a < 4294967296) (hb : b < 4294967296) : a ^^^ b < 4294967296 := Nat.xor_lt_two_pow (n := 32) ha hb
theorem step1_lt {x : Nat} (h : x < 4294967296) : step1 x < 4294967296 := by
  unfold step1
  split
  · exact xor_lt32 (by omega) (by decide)
  · omega
theorem steps_lt : ∀ (k x : Nat), x < 4294967296 → steps k x < 4294967296
  | 0, _, h => h
  | k + 1, _, h => steps_lt k _ (step1_lt h)
theorem steps_succ : ∀ (k x : Nat), steps (k + 1) x = step1 (steps k x)
  | 0, _ => rfl
  | k + 1, x => steps_succ k (step1 x)
theorem crcByte_lt {x : Nat} {c : UInt8} (h : x < 4294967296) : crcByte x c < 4294967296 := steps_lt 8 _ (xor_lt32 h (by have := c.toNat_lt; omega))
theorem crcFrom_lt : ∀ (l : List UInt8) (x : Nat), x < 4294967296 → crcFrom x l < 4294967296
  | [], _, h => h
  | _ :: r, _, h => crcFrom_lt r _ (crcByte_lt h)

set_option maxRecDepth 100000 in
theorem stir_step (x : Nat) (h : x < 4294967296) : bits .xor .u32 ((x : Int) / 2) (bits .and .u32 3988292384 (-(bits .and .u32 (x : Int) 1) % 4294967296)) = ((step1 x : Nat) : Int) := by
  have e1 : bits .and .u32 (x : Int) 1 = ((x % 2 : Nat) : Int) := by
    have := u32_and_nat x 1 h (by decide)
    rw [show ((1 : Nat) : Int) = 1 from rfl] at this
    rw [this, nat_mask1]
  rw [e1]
  have e2 : (x : Int) / 2 = ((x / 2 : Nat) : Int) := by omega
  rw [e2]
  unfold step1
  by_cases hp : x % 2 = 1
  · have e3 : -((x % 2 : Nat) : Int) % 4294967296 = ((4294967295 : Nat) : Int) := by omega
    have e4 : bits .and .u32 3988292384 ((4294967295 : Nat) : Int) = ((3988292384 : Nat) : Int) := by decide +kernel
    rw [e3, e4, if_pos hp]
    exact u32_xor_nat _ _ (by omega) (by decide)
  · have e3 : -((x % 2 : Nat) : Int) % 4294967296 = ((0 : Nat) : Int) := by omega
    have e4 : bits .and .u32 3988292384 ((0 : Nat) : Int) = ((0 : Nat) : Int) := by decide +kernel
    rw [e3, e4, if_neg hp, u32_xor_nat _ _ (by omega) (by decide), Nat.xor_zero]

set_option maxRecDepth 1000000 in
set_option maxHeartbeats 400000 in
theorem stir_any (x : Nat) (w : World) (h : x < 4294967296) : Calls Tryz.prog 92 #[.int .u32 x] w fun e w' => e = .returned (.int .u32 (steps 8 x)) ∧ w = w' := by
  go_enter Tryz.func92, Tryz.ntmps92
  go_wp2
  go_loop [0, 3] (fun v i => ∃ k : Nat, k ≤ 8 ∧ i = .int .i64 k ∧ v = .int .u32 (steps k x)) (fun _ i => 8 - (intOf i).toNat)
  case atStart => exact ⟨0, by omega, rfl, rfl⟩
  case round =>
    obtain ⟨k, hk, rfl, rfl⟩ := hrel
    have hst := stir_step (steps k x) (steps_lt k x h)
    rw [← steps_succ] at hst
    have HST := Lib.hid hst
    have hlt := steps_lt k x h
    generalize hy : steps k x = y at *
    have HY := Lib.hid hy
    clear hst hy
    by_cases hk8 : k < 8
    · go_wp2
      go_round
      case rel => exact ⟨k + 1, by omega, by go_num, by rw [HST.out]⟩
      case measure => simp [intOf]; omega
    · obtain rfl : k = 8 := by omega
      go_wp2
      rw [HY.out]
      go_ret
      exact ⟨rfl, rfl⟩

theorem crc_byte (x c : Nat) (h : x < 4294967296) (hc : c < 256) : bits .xor .u32 (x : Int) ((c : Int) % 4294967296) = ((x ^^^ c : Nat) : Int) := by
  rw [show ((c : Int) % 4294967296) = (c : Int) by omega]
  exact u32_xor_nat _ _ h (by omega)

theorem ones_xor (n b : Nat) (hb : b < 2 ^ n) : (2 ^ n - 1) ^^^ b = 2 ^ n - 1 - b := by
  refine Nat.eq_of_testBit_eq fun i => ?_
  rw [show 2 ^ n - 1 - b = 2 ^ n - (b + 1) by omega, Nat.testBit_two_pow_sub_succ hb, Nat.testBit_xor, Nat.testBit_two_pow_sub_one]
  by_cases hi : i < n
  · simp [hi]
  · have : b.testBit i = false := Nat.testBit_lt_two_pow (Nat.lt_of_lt_of_le hb (Nat.pow_le_pow_right (by decide) (by omega)))
    simp [hi, this]

theorem crc_not (y : Nat) (h : y < 4294967296) : wrap64 (bits .xor .u32 IntKind.u32.max (y : Int)) = ((4294967295 - y : Nat) : Int) := by
  have e1 : IntKind.u32.max = ((4294967295 : Nat) : Int) := by decide +kernel
  have e2 : (4294967295 : Nat) = 2 ^ 32 - 1 := by decide
  rw [e1, u32_xor_nat _ _ (by decide) h, e2, ones_xor 32 y h]
  unfold wrap64
  omega

def flat (l : List ByteArray) : List UInt8 := l.flatMap fun s => s.data.toList
theorem flat_snoc (l : List ByteArray) (s : ByteArray) : flat (l ++ [s]) = flat l ++ s.data.toList := by simp [flat]
theorem crcFrom_append (x : Nat) (a b : List UInt8) : crcFrom x (a ++ b) = crcFrom (crcFrom x a) b := List.foldl_append

theorem take_bytes (s : ByteArray) (j : Nat) (h : j < s.size) : s.data.toList.take (j + 1) = s.data.toList.take j ++ [s[j]] := by
  rw [List.take_succ_eq_append_getElem (by simpa using h)]
  rfl

set_option maxRecDepth 1000000 in
set_option maxHeartbeats 400000 in
theorem crc_any (v : Value) (l : List ByteArray) (w : World) (hr : Reads1 w w.heap.size v (l.map Value.string)) (hl : l.length ≤ 1099511627776) (hsz : ∀ s ∈ l, s.size ≤ 9223372036854775807) :
    Calls Tryz.prog 71 #[v] w fun e w' => e = .returned (.int .i64 (crcB (flat l))) ∧ w = w' := by
  obtain ⟨A, c, rfl, hc⟩ := hr
  simp only [List.length_map] at hc ⊢
  go_enter Tryz.func71, Tryz.ntmps71
  go_wp2
  go_loop [3, 9] (fun x i => ∃ k : Nat, k ≤ l.length ∧ i = .int .i64 k ∧ x = .int .u32 (crcFrom 4294967295 (flat (l.take k)))) (fun _ i => l.length - (intOf i).toNat)
  case atStart => exact ⟨0, Nat.zero_le _, rfl, rfl⟩
  case round =>
    obtain ⟨k, hk, rfl, rfl⟩ := hrel
    have hlt0 := crcFrom_lt (flat (l.take k)) 4294967295 (by decide)
    by_cases hlt : k < l.length
    · obtain ⟨b, off, rfl, hbb, hcell⟩ := hc (by omega)
      have hck : w.cell? ⟨b, off + k, none⟩ = some (.string l[k]) := hcell k _ (by simp [hlt])
      have hsk := hsz l[k] (by simp)
      have HS : Hid (flat (l.take (k + 1)) = flat (l.take k) ++ l[k].data.toList) := by show _ = _; rw [take_snoc1 l k hlt, flat_snoc]
      generalize l[k] = s at *
      clear hc hcell
      generalize hx : crcFrom 4294967295 (flat (l.take k)) = x0 at *
      have HX := Lib.hid hx
      clear hx
      go_wp2
      go_loop [3, 15] (fun x i => ∃ j : Nat, j ≤ s.size ∧ i = .int .i64 j ∧ x = .int .u32 (crcFrom x0 (s.data.toList.take j))) (fun _ i => s.size - (intOf i).toNat)
      case atStart => exact ⟨0, Nat.zero_le _, rfl, rfl⟩
      case round =>
        obtain ⟨j, hj, rfl, rfl⟩ := hrel
        have hlt1 := crcFrom_lt (s.data.toList.take j) x0 hlt0
        by_cases hjs : j < s.size
        · have HT : Hid (steps 8 (crcFrom x0 (s.data.toList.take j) ^^^ s[j].toNat) = crcFrom x0 (s.data.toList.take (j + 1))) := by show _ = _; rw [take_bytes s j hjs, crcFrom_append]; rfl
          have hxl : crcFrom x0 (s.data.toList.take j) ^^^ s[j].toNat < 4294967296 := xor_lt32 hlt1 (by have := s[j].toNat_lt; omega)
          have hcb := crc_byte _ s[j].toNat hlt1 s[j].toNat_lt
          generalize crcFrom x0 (s.data.toList.take j) = y at *
          have HCB := Lib.hid hcb
          clear hcb
          go_wp2_with fail
          rw [HCB.out]
          refine (stir_any _ _ hxl).mono ?_
          rintro e w' ⟨rfl, rfl⟩
          rw [HT.out]
          go_wp2
          go_round
          case rel => exact ⟨j + 1, by omega, by go_num, rfl⟩
          case measure => simp [intOf]; omega
        · have hjj : s.data.toList.take j = s.data.toList := List.take_of_length_le (by simp; omega)
          have HE : Hid (crcFrom x0 (s.data.toList.take j) = crcFrom 4294967295 (flat (l.take (k + 1)))) := by show _ = _; rw [hjj, HS.out, crcFrom_append, HX.out]
          clear hjj
          generalize crcFrom x0 (s.data.toList.take j) = y at *
          go_wp2
          go_round
          case rel => exact ⟨k + 1, by omega, by go_num, by rw [HE.out]⟩
          case measure => simp [intOf]; omega
    · have hkl : k = l.length := by omega
      have HE : Hid (crcFrom 4294967295 (flat (l.take k)) = crcFrom 4294967295 (flat l)) := by show _ = _; rw [hkl, List.take_length]
      have hnot := crc_not _ hlt0
      have hcb : 4294967295 - crcFrom 4294967295 (flat (l.take k)) = crcB (flat l) := by rw [HE.out]; rfl
      rw [hcb] at hnot
      have HNOT := Lib.hid hnot
      clear hkl hnot hcb
      generalize crcFrom 4294967295 (flat (l.take k)) = y at *
      go_wp2
      rw [HNOT.out]
      go_ret
      exact ⟨rfl, rfl⟩

end Go.Proofs.YtmcfldcpmjdfbaaGreatDoor

namespace Go.Proofs.YtmcfldcpmjdfbaaGreatDoor
open Go.Lib

theorem step1_inj {x y : Nat} (hx : x < 4294967296) (hy : y < 4294967296) (h : step1 x = step1 y) : x = y := by
  have top : ∀ u v : Nat, u < 2147483648 → v < 2147483648 → u ^^^ 3988292384 ≠ v := fun u v hu hv e => by
    have h1 := congrArg (fun n => n.testBit 31) e
    simp only [Nat.testBit_xor] at h1
    rw [Nat.testBit_lt_two_pow (show u < 2 ^ 31 from hu), Nat.testBit_lt_two_pow (show v < 2 ^ 31 from hv)] at h1
    exact absurd h1 (by decide)
  have inj : ∀ u v : Nat, u ^^^ 3988292384 = v ^^^ 3988292384 → u = v := fun u v e => by
    have h1 := congrArg (fun n => n ^^^ 3988292384) e
    simpa [Nat.xor_assoc] using h1
  unfold step1 at h
  split at h
  · split at h
    · have := inj _ _ h
      omega
    · exact absurd h (top _ _ (by omega) (by omega))
  · split at h
    · exact absurd h.symm (top _ _ (by omega) (by omega))
    · omega

theorem steps_inj : ∀ (k : Nat) {x y : Nat}, x < 4294967296 → y < 4294967296 → steps k x = steps k y → x = y
  | 0, _, _, _, _, h => h
  | k + 1, _, _, hx, hy, h => step1_inj hx hy (steps_inj k (step1_lt hx) (step1_lt hy) h)

theorem crcByte_inj {x y : Nat} {c : UInt8} (hx : x < 4294967296) (hy : y < 4294967296) (h : crcByte x c = crcByte y c) : x = y := by
  have hc := c.toNat_lt
  have h1 := steps_inj 8 (xor_lt32 hx (by omega)) (xor_lt32 hy (by omega)) h
  have h2 := congrArg (fun n => n ^^^ c.toNat) h1
  simpa [Nat.xor_assoc] using h2
theorem crcByte_ne {x : Nat} {c d : UInt8} (hx : x < 4294967296) (hcd : c ≠ d) : crcByte x c ≠ crcByte x d := fun h => by
  have hc := c.toNat_lt
  have hd := d.toNat_lt
  have h1 := steps_inj 8 (xor_lt32 hx (by omega)) (xor_lt32 hx (by omega)) h
  have h2 := congrArg (fun n => x ^^^ n) h1
  simp only [← Nat.xor_assoc, Nat.xor_self, Nat.zero_xor] at h2
  exact hcd (UInt8.toNat_inj.1 h2)
theorem crcFrom_inj : ∀ (l : List UInt8) {x y : Nat}, x < 4294967296 → y < 4294967296 → crcFrom x l = crcFrom y l → x = y
  | [], _, _, _, _, h => h
  | _ :: r, _, _, hx, hy, h => crcByte_inj hx hy (crcFrom_inj r (crcByte_lt hx) (crcByte_lt hy) h)

theorem crcB_change (l : List UInt8) (i : Nat) (c d : UInt8) (hi : l[i]? = some c) (hcd : c ≠ d) : crcB (l.set i d) ≠ crcB l := by
  have hlen : i < l.length := (List.getElem?_eq_some_iff.1 hi).1
  have hl : l = l.take i ++ c :: l.drop (i + 1) := by
    have h1 := List.drop_eq_getElem_cons hlen
    have h2 : l[i] = c := (List.getElem?_eq_some_iff.1 hi).2
    rw [h2] at h1
    rw [← h1, List.take_append_drop]
  have hs : l.set i d = l.take i ++ d :: l.drop (i + 1) := List.set_eq_take_append_cons_drop ▸ (by rw [if_pos hlen])
  intro h
  unfold crcB at h
  have h1 := crcFrom_lt (l.set i d) 4294967295 (by decide)
  have h2 := crcFrom_lt l 4294967295 (by decide)
  have h3 : crcFrom 4294967295 (l.set i d) = crcFrom 4294967295 l := by omega
  rw [hs] at h3
  conv at h3 => rhs; rw [hl]
  rw [crcFrom_append, crcFrom_append] at h3
  have hx := crcFrom_lt (l.take i) 4294967295 (by decide)
  exact crcByte_ne hx hcd.symm (crcFrom_inj (l.drop (i + 1)) (crcByte_lt hx) (crcByte_lt hx) h3)

theorem crcB_lt (l : List UInt8) : crcB l < 4294967296 := by unfold crcB; omega

end Go.Proofs.YtmcfldcpmjdfbaaGreatDoor

namespace Go.Proofs.YtmcfldcpmjdfbaaGreatDoor
open Go.RowKit Go.Lib

def headB (kind id next n : Nat) : List UInt8 := leb 1 kind ++ leb 4 id ++ leb 4 next ++ leb 2 n
def bodyB (kind id next : Nat) (s : List UInt8) : List UInt8 := headB kind id next s.length ++ s ++ List.replicate (241 - s.length) 0
def pageB (kind id next : Nat) (s : List UInt8) : List UInt8 := bodyB kind id next s ++ leb 4 (crcB (bodyB kind id next s))

theorem headB_len (kind id next n : Nat) : (headB kind id next n).length = 11 := by simp [headB, leb_length]
theorem bodyB_len {kind id next : Nat} {s : List UInt8} (h : s.length ≤ 240) : (bodyB kind id next s).length = 252 := by
  simp [bodyB, headB_len]
  omega
theorem pageB_len {kind id next : Nat} {s : List UInt8} (h : s.length ≤ 240) : (pageB kind id next s).length = 256 := by
  simp [pageB, bodyB_len h, leb_length]

/-- What may be sealed; what Seal tells. -/
def SealOK (id kind next : Int) : Prop := 0 ≤ id ∧ id < 4294967296 ∧ 0 ≤ next ∧ next < 4294967296 ∧ 1 ≤ kind ∧ kind < 256
instance (id kind next : Int) : Decidable (SealOK id kind next) := by unfold SealOK; infer_instance
def sealE (id kind next : Int) (n : Nat) : Int := if SealOK id kind next then (if n ≤ 240 then 0 else 2) else 1
def sealB (id kind next : Int) (s : List UInt8) : List UInt8 := if SealOK id kind next ∧ s.length ≤ 240 then pageB kind.toNat id.toNat next.toNat s else []

/-- A number of so many bytes from a place on. -/
def fld (l : List UInt8) (i n : Nat) : Nat := unleb ((l.drop i).take n)
theorem fld_lt (l : List UInt8) (i n : Nat) : fld l i n < 2 ^ (8 * n) := by
  refine Nat.lt_of_lt_of_le (unleb_lt _) (Nat.pow_le_pow_right (by decide) ?_)
  simp
  omega

/-- What stands behind the body, and what Open tells. -/
def tailB (l : List UInt8) : List UInt8 := (l.take 252).drop (11 + fld l 9 2)
def zeroB (l : List UInt8) : Bool := l.all fun c => c == 0
def openE (id : Int) (l : List UInt8) : Int :=
  if l.length ≠ 256 then 5 else if fld l 252 4 ≠ crcB (l.take 252) then 6 else if (fld l 1 4 : Int) ≠ id ∨ fld l 0 1 = 0 ∨ 240 < fld l 9 2 then 4 else if zeroB (tailB l) = true then 0 else 4
def openK (id : Int) (l : List UInt8) : Nat := if openE id l = 0 then fld l 0 1 else 0
def openN (id : Int) (l : List UInt8) : Nat := if openE id l = 0 then fld l 5 4 else 0
def openS (id : Int) (l : List UInt8) : List UInt8 := if openE id l = 0 then (l.drop 11).take (fld l 9 2) else []
def pageV (kind next : Int) (s : ByteArray) : Value := .agg #[.int .i64 kind, .int .i64 next, .string s]
def openV (id : Int) (l : List UInt8) : Value := .tuple #[.agg #[.int .i64 (openK id l), .int .i64 (openN id l), .string ⟨(openS id l).toArray⟩], .int .i64 (openE id l)]

theorem open_short {id : Int} {l : List UInt8} (h : l.length ≠ 256) : openE id l = 5 := by rw [openE, if_pos h]
theorem open_sum {id : Int} {l : List UInt8} (h : l.length = 256) (h1 : fld l 252 4 ≠ crcB (l.take 252)) : openE id l = 6 := by rw [openE, if_neg (by omega), if_pos h1]
theorem open_form {id : Int} {l : List UInt8} (h : l.length = 256) (h1 : fld l 252 4 = crcB (l.take 252)) (h2 : (fld l 1 4 : Int) ≠ id ∨ fld l 0 1 = 0 ∨ 240 < fld l 9 2) : openE id l = 4 := by
  rw [openE, if_neg (by omega), if_neg (by omega), if_pos h2]
theorem open_tail {id : Int} {l : List UInt8} (h : l.length = 256) (h1 : fld l 252 4 = crcB (l.take 252)) (h2 : ¬ ((fld l 1 4 : Int) ≠ id ∨ fld l 0 1 = 0 ∨ 240 < fld l 9 2)) (h3 : zeroB (tailB l) = false) : openE id l = 4 := by
  rw [openE, if_neg (by omega), if_neg (by omega), if_neg h2, if_neg (by simp [h3])]
theorem open_ok {id : Int} {l : List UInt8} (h : l.length = 256) (h1 : fld l 252 4 = crcB (l.take 252)) (h2 : ¬ ((fld l 1 4 : Int) ≠ id ∨ fld l 0 1 = 0 ∨ 240 < fld l 9 2)) (h3 : zeroB (tailB l) = true) : openE id l = 0 := by
  rw [openE, if_neg (by omega), if_neg (by omega), if_neg h2, if_pos h3]
theorem openV_bad {id : Int} {l : List UInt8} {e : Int} (h : openE id l = e) (he : e ≠ 0) : openV id l = .tuple #[.agg #[.int .i64 0, .int .i64 0, .string ⟨#[]⟩], .int .i64 e] := by
  unfold openV openK openN openS
  rw [h, if_neg he, if_neg he, if_neg he]
  rfl
theorem openV_ok {id : Int} {l : List UInt8} (h : openE id l = 0) : openV id l = .tuple #[.agg #[.int .i64 (fld l 0 1), .int .i64 (fld l 5 4), .string ⟨((l.drop 11).take (fld l 9 2)).toArray⟩], .int .i64 0] := by
  unfold openV openK openN openS
  rw [h, if_pos rfl, if_pos rfl, if_pos rfl]

/-! ### What is sealed is opened as it was -/
theorem drop_left {α : Type} (a b : List α) {n : Nat} (h : a.length = n) : (a ++ b).drop n = b := by rw [← h, List.drop_left]
theorem take_left {α : Type} (a b : List α) {n : Nat} (h : a.length = n) : (a ++ b).take n = a := by rw [← h, List.take_left]

section
variable {kind id next : Nat} {s : List UInt8}
theorem page_take (h : s.length ≤ 240) : (pageB kind id next s).take 252 = bodyB kind id next s := take_left _ _ (bodyB_len h)
theorem page_sum (h : s.length ≤ 240) : fld (pageB kind id next s) 252 4 = crcB ((pageB kind id next s).take 252) := by
  rw [page_take h, fld, pageB, drop_left _ _ (bodyB_len h), List.take_of_length_le (by rw [leb_length]; omega), unleb_leb]
  exact crcB_lt _
theorem page_shape : pageB kind id next s = leb 1 kind ++ (leb 4 id ++ (leb 4 next ++ (leb 2 s.length ++ (s ++ (List.replicate (241 - s.length) 0 ++ leb 4 (crcB (bodyB kind id next s))))))) := by
  simp only [pageB, bodyB, headB, List.append_assoc]
theorem page_kind (hk : kind < 256) : fld (pageB kind id next s) 0 1 = kind := by
  rw [page_shape, fld, List.drop_zero, take_left _ _ (leb_length 1 kind), unleb_leb _ _ hk]
theorem page_id (hi : id < 4294967296) : fld (pageB kind id next s) 1 4 = id := by
  rw [page_shape, fld, drop_left _ _ (leb_length 1 kind), take_left _ _ (leb_length 4 id), unleb_leb _ _ hi]
theorem page_next (hn : next < 4294967296) : fld (pageB kind id next s) 5 4 = next := by
  rw [page_shape, fld, show 5 = 1 + 4 from rfl, ← List.drop_drop, drop_left _ _ (leb_length 1 kind), drop_left _ _ (leb_length 4 id), take_left _ _ (leb_length 4 next), unleb_leb _ _ hn]
theorem page_size (h : s.length ≤ 240) : fld (pageB kind id next s) 9 2 = s.length := by
  rw [page_shape, fld, show 9 = 1 + 4 + 4 from rfl, ← List.drop_drop, ← List.drop_drop, drop_left _ _ (leb_length 1 kind), drop_left _ _ (leb_length 4 id), drop_left _ _ (leb_length 4 next), take_left _ _ (leb_length 2 _), unleb_leb _ _ (by omega)]
theorem page_body : (pageB kind id next s).drop 11 = s ++ (List.replicate (241 - s.length) 0 ++ leb 4 (crcB (bodyB kind id next s))) := by
  rw [page_shape, show 11 = 1 + 4 + 4 + 2 from rfl, ← List.drop_drop, ← List.drop_drop, ← List.drop_drop, drop_left _ _ (leb_length 1 kind), drop_left _ _ (leb_length 4 id), drop_left _ _ (leb_length 4 next), drop_left _ _ (leb_length 2 _)]
theorem page_tail (h : s.length ≤ 240) : zeroB (tailB (pageB kind id next s)) = true := by
  rw [tailB, page_size h, page_take h, bodyB, drop_left _ _ (by simp [headB_len]), zeroB, List.all_eq_true]
  intro x hx
  rw [List.eq_of_mem_replicate hx]
  rfl
theorem page_open (hk0 : 0 < kind) (hk : kind < 256) (hi : id < 4294967296) (hn : next < 4294967296) (h : s.length ≤ 240) :
    openV (id : Int) (pageB kind id next s) = .tuple #[.agg #[.int .i64 kind, .int .i64 next, .string ⟨s.toArray⟩], .int .i64 0] := by
  have hs := page_size (kind := kind) (id := id) (next := next) h
  rw [openV_ok (open_ok (pageB_len h) (page_sum h) (by rw [page_id hi, page_kind hk, hs]; omega) (page_tail h)), page_kind hk, page_next hn, hs, page_body, List.take_left]
theorem page_other (hi : id < 4294967296) (h : s.length ≤ 240) (j : Int) (hj : j ≠ id) : openE j (pageB kind id next s) = 4 :=
  open_form (pageB_len h) (page_sum h) (.inl (by rw [page_id hi]; exact fun e => hj e.symm))
/-- A page of which one byte is changed. -/
theorem page_change (h : s.length ≤ 240) (j : Int) (i : Nat) (c d : UInt8) (hi : (pageB kind id next s)[i]? = some c) (hcd : c ≠ d) : openE j ((pageB kind id next s).set i d) = 6 := by
  have hl := pageB_len (kind := kind) (id := id) (next := next) h
  have hlt : i < 256 := by rw [← hl]; exact (List.getElem?_eq_some_iff.1 hi).1
  refine open_sum (by rw [List.length_set]; exact hl) ?_
  have hsum := page_sum (kind := kind) (id := id) (next := next) h
  generalize pageB kind id next s = l at *
  by_cases hb : i < 252
  · have e1 : fld (l.set i d) 252 4 = fld l 252 4 := by rw [fld, fld, List.drop_set_of_lt hb]
    have e2 : (l.set i d).take 252 = (l.take 252).set i d := List.take_set
    rw [e1, e2, hsum]
    refine fun e => crcB_change (l.take 252) i c d ?_ hcd e.symm
    rw [List.getElem?_take, if_pos hb, hi]
  · have e1 : (l.set i d).take 252 = l.take 252 := by rw [List.take_set, List.set_eq_of_length_le (by simp; omega)]
    have e2 : fld (l.set i d) 252 4 ≠ fld l 252 4 := by
      intro e
      have e3 : ((l.set i d).drop 252).take 4 = (l.drop 252).take 4 := unleb_inj (by simp) e
      have e4 := congrArg (fun q => q[i - 252]?) e3
      simp only [List.getElem?_take, if_pos (show i - 252 < 4 by omega), List.getElem?_drop, show 252 + (i - 252) = i by omega] at e4
      rw [hi, List.getElem?_set_self (by omega)] at e4
      exact hcd (Option.some.inj e4).symm
    rw [e1, ← hsum]
    exact e2
end
end Go.Proofs.YtmcfldcpmjdfbaaGreatDoor

namespace Go.Proofs.YtmcfldcpmjdfbaaGreatDoor
open Go.RowKit Go.Lib

theorem cat_data (a b : ByteArray) : (a ++ b).data.toList = a.data.toList ++ b.data.toList := by simp

theorem crc_cell (s : ByteArray) (g : Nat) (w : World) (hs : s.size ≤ 9223372036854775807) (hc : w.cell? ⟨g, 0, none⟩ = some (.string s)) :
    Calls Tryz.prog 71 #[.slice (some ⟨g, 0, none⟩) 1 1] w fun e w' => e = .returned (.int .i64 (crcB s.data.toList)) ∧ w = w' := by
  have hr : Reads1 w w.heap.size (.slice (some ⟨g, 0, none⟩) 1 1) ([s].map Value.string) := by
    refine ⟨_, _, rfl, fun _ => ⟨g, 0, rfl, World.block_lt_of_cell? w _ hc, fun j u hu => ?_⟩⟩
    match j, hu with
    | 0, hu => simp at hu; subst hu; exact hc
    | j + 1, hu => simp at hu
  have h := crc_any _ [s] _ hr (by simp) (by intro x hx; simp at hx; subst hx; exact hs)
  have e1 : flat [s] = s.data.toList := by simp [flat]
  rw [e1] at h
  exact h

set_option maxRecDepth 100000 in
set_option maxHeartbeats 400000 in
theorem field_any (s : ByteArray) (a n : Nat) (w : World) (h1 : 1 ≤ n) (h7 : n ≤ 7) (hs : s.size ≤ 9223372036854775807) (h : a + n ≤ s.size) :
    Calls Tryz.prog 70 #[.string s, .int .i64 a, .int .i64 n] w fun e w' => e = .returned (.int .i64 (fld s.data.toList a n)) ∧ w = w' := by
  have H := Lib.hid (fun w => unfix_ok s a n w h1 h7 hs h)
  clear h1 h7 hs h
  unfold fld
  go_enter Tryz.func70, Tryz.ntmps70
  go_wp2_with (go_at_call 91; refine (H.out _).mono ?_; rintro e w' ⟨rfl, rfl⟩)
  go_ret
  exact ⟨rfl, rfl⟩

/-- A field of a text of 256 bytes, at given places. -/
theorem field_at (s : ByteArray) (x : Nat) (i n : Int) (a k : Nat) (w : World) (hi : i = a) (hn : n = k) (h1 : 1 ≤ k) (h7 : k ≤ 7) (hs : s.size = 256) (h : a + k ≤ 256) (hx : fld s.data.toList a k = x) :
    Calls Tryz.prog 70 #[.string s, .int .i64 i, .int .i64 n] w fun e w' => e = .returned (.int .i64 x) ∧ w = w' := by
  subst hi hn hx
  exact field_any s a k w h1 h7 (by omega) (by omega)

theorem dropWhile_all {α : Type} (p : α → Bool) : ∀ l : List α, (∀ x ∈ l.dropWhile p, p x = true) → ∀ x ∈ l, p x = true
  | [], _ => by simp
  | a :: r, h => by
    by_cases ha : p a = true
    · rw [List.dropWhile_cons_of_pos ha] at h
      intro x hx
      rcases List.mem_cons.1 hx with rfl | hx
      · exact ha
      · exact dropWhile_all p r h x hx
    · rw [List.dropWhile_cons_of_neg ha] at h
      exact absurd (h a (by simp)) ha
theorem dropWhile_nil {α : Type} (p : α → Bool) (l : List α) : l.dropWhile p = [] ↔ ∀ x ∈ l, p x = true := by
  constructor
  · intro h
    exact dropWhile_all p l (by rw [h]; simp)
  · intro h
    induction l with
    | nil => rfl
    | cons a r ih => rw [List.dropWhile_cons_of_pos (h a (by simp))]; exact ih (fun x hx => h x (by simp [hx]))
theorem trimB_nil (l : List UInt8) : trimB l 0 = [] ↔ zeroB l = true := by
  unfold trimB trimLeftB trimRightB zeroB
  rw [dropWhile_nil, List.all_eq_true]
  constructor
  · intro h x hx
    exact dropWhile_all (fun c => c == 0) l.reverse (fun y hy => h y (by simpa using hy)) x (by simpa using hx)
  · intro h x hx
    exact h x (by have := (List.dropWhile_sublist _).subset (List.mem_reverse.1 hx); simpa using this)

set_option maxHeartbeats 400000 in
theorem trim_zero (s : ByteArray) (w : World) (hs : s.size ≤ 9223372036854775807) (h : zeroB s.data.toList = true) :
    Calls Tryz.prog 72 #[.string s, .string ⟨#[0]⟩] w fun e w' => e = .returned (.string ⟨#[]⟩) ∧ ∃ k, w' = w.drewN k := by
  have h1 := Tryz.strings_Trim_one s 0 (by decide) w hs
  rw [(trimB_nil _).2 h] at h1
  refine h1.mono ?_
  rintro e w' ⟨rfl, rfl | rfl⟩
  · exact ⟨rfl, 0, rfl⟩
  · exact ⟨rfl, 1, rfl⟩
theorem trim_some (s : ByteArray) (w : World) (hs : s.size ≤ 9223372036854775807) (h : zeroB s.data.toList = false) :
    Calls Tryz.prog 72 #[.string s, .string ⟨#[0]⟩] w fun e w' => ∃ t : ByteArray, t.toList.isEmpty = false ∧ e = .returned (.string t) ∧ ∃ k, w' = w.drewN k := by
  have h1 := Tryz.strings_Trim_one s 0 (by decide) w hs
  have h2 : trimB s.data.toList 0 ≠ [] := fun e => by rw [(trimB_nil _).1 e] at h; exact absurd h (by simp)
  refine h1.mono ?_
  have h3 : ByteArray.toList ⟨(trimB s.data.toList 0).toArray⟩ ≠ [] := by rw [ByteArray.toList_eq]; simpa using h2
  rintro e w' ⟨rfl, rfl | rfl⟩
  · exact ⟨_, by simpa using h3, rfl, 0, rfl⟩
  · exact ⟨_, by simpa using h3, rfl, 1, rfl⟩
end Go.Proofs.YtmcfldcpmjdfbaaGreatDoor
