/-
  Walks over package num: Number, Digits.
-/
import Derived.Test.YtdkafkdilmheiaaDoorW4
import Derived.Test.YtdkafkdilmheiaaDoorShelf
import Derived.Test.YtdkafkdilmheiaaDoorMath
namespace Go.Proofs.YtdkafkdilmheiaaDoor
open Go.RowKit Go.Lib

def isDig (c : UInt8) : Bool := decide (48 ≤ c.toNat) && decide (c.toNat ≤ 57)
def numScan : List UInt8 → Nat → Option Nat
  | [], v => some v
  | c :: r, v => if isDig c then numScan r (10 * v + (c.toNat - 48)) else none

def numTail (l : List UInt8) : Option Nat := if l.length < 1 ∨ 18 < l.length ∨ l.head? = some 48 then none else numScan l 0
/-- The number of a text's digits. -/
def numOf (l : List UInt8) : Option Int :=
  if l = [48] then some 0 else if l.head? = some 45 then (numTail l.tail).map (fun v : Nat => -(v : Int)) else (numTail l).map (fun v : Nat => (v : Int))

/-- What Number tells. -/
def numPost (l : List UInt8) (w : World) (e : Ending) (w' : World) : Prop := e = .returned (.tuple #[.int .i64 ((numOf l).getD 0), .int .i64 (if (numOf l).isSome then 0 else 1)]) ∧ w = w'

theorem numPost_none {l : List UInt8} {w : World} (h : numOf l = none) : numPost l w (.returned (.tuple #[.int .i64 0, .int .i64 1])) w := by unfold numPost; rw [h]; exact ⟨rfl, rfl⟩
theorem numPost_some {l : List UInt8} {w : World} {v : Int} (h : numOf l = some v) : numPost l w (.returned (.tuple #[.int .i64 v, .int .i64 0])) w := by unfold numPost; rw [h]; exact ⟨rfl, rfl⟩

theorem num_zero {s : ByteArray} (h : (s.toList == [48]) = true) : numOf s.data.toList = some 0 := by
  rw [ByteArray.toList_eq] at h
  have := eq_of_beq h
  rw [this]; rfl
theorem num_ne {s : ByteArray} (h : (s.toList == [48]) = false) : ¬ s.data.toList = [48] := by
  rw [ByteArray.toList_eq] at h
  intro e
  rw [e] at h
  exact absurd h (by decide)
theorem head_eq {s : ByteArray} (h : 0 < s.size) : s.data.toList.head? = some s[0] := by
  have := drop_cons s 0 h
  rw [List.drop_zero] at this
  rw [this]; rfl
theorem num_minus {s : ByteArray} (h0 : (s.toList == [48]) = false) (h1 : 0 < s.size) (h2 : ((s[0].toNat : Int) == 45) = true) : numOf s.data.toList = (numTail (s.extract 1 s.size).data.toList).map (fun v : Nat => -(v : Int)) := by
  have e := WalkArith.int_eq h2
  have e1 : s[0] = 45 := UInt8.toNat_inj.1 (by show s[0].toNat = 45; omega)
  have e2 : (s.extract 1 s.size).data.toList = s.data.toList.tail := by
    simp
    exact List.take_of_length_le (by simp)
  unfold numOf
  rw [if_neg (num_ne h0), head_eq h1, e1, if_pos rfl, e2]
theorem num_plus {s : ByteArray} (h0 : (s.toList == [48]) = false) (h1 : 0 < s.size) (h2 : ((s[0].toNat : Int) == 45) = false) : numOf s.data.toList = (numTail s.data.toList).map (fun v : Nat => (v : Int)) := by
  have e := WalkArith.int_ne h2
  unfold numOf
  rw [if_neg (num_ne h0), head_eq h1, if_neg (fun e1 => e (by have := Option.some.inj e1; rw [this]; rfl))]
theorem num_empty {s : ByteArray} (h1 : ¬ 0 < s.size) : numOf s.data.toList = none := by
  have hl : s.data.toList.length = s.size := by simp
  have e : s.data.toList = [] := List.eq_nil_of_length_eq_zero (by omega)
  rw [e]; rfl
theorem tail_short {s : ByteArray} (h : (s.size : Int) < 1 ∨ 18 < (s.size : Int)) : numTail s.data.toList = none := by
  have hl : s.data.toList.length = s.size := by simp
  unfold numTail
  rw [if_pos]
  rw [hl]
  omega
theorem tail_nought {s : ByteArray} (h1 : 0 < s.size) (h2 : ((s[0].toNat : Int) == 48) = true) : numTail s.data.toList = none := by
  have e := WalkArith.int_eq h2
  have e1 : s[0] = 48 := UInt8.toNat_inj.1 (by show s[0].toNat = 48; omega)
  have e2 := head_eq h1
  rw [e1] at e2
  unfold numTail
  rw [if_pos (Or.inr (Or.inr e2))]
theorem tail_scan {s : ByteArray} (h1 : 0 < s.size) (h18 : s.size ≤ 18) (h2 : ((s[0].toNat : Int) == 48) = false) : numTail s.data.toList = numScan s.data.toList 0 := by
  have e := WalkArith.int_ne h2
  unfold numTail
  have hl : s.data.toList.length = s.size := by simp
  rw [hl, if_neg]
  rintro (h | h | h)
  · omega
  · omega
  · rw [head_eq (by omega)] at h
    exact e (by have := Option.some.inj h; rw [this]; rfl)
theorem scan_no {s : ByteArray} {k V : Nat} (h : k < s.size) (hd : isDig s[k] = false) : numScan (s.data.toList.drop k) V = none := by
  rw [drop_cons s k h, numScan, hd]; rfl
theorem scan_yes {s : ByteArray} {k V : Nat} (h : k < s.size) (hd : isDig s[k] = true) : numScan (s.data.toList.drop k) V = numScan (s.data.toList.drop (k + 1)) (10 * V + (s[k].toNat - 48)) := by
  rw [drop_cons s k h, numScan, hd]; rfl
theorem scan_end {s : ByteArray} {V : Nat} : numScan (s.data.toList.drop s.size) V = some V := by
  rw [List.drop_eq_nil_of_le (by simp)]; rfl
theorem pow18 {V k d : Nat} (h : V < 10 ^ k) (hd : d ≤ 9) : 10 * V + d < 10 ^ (k + 1) := by rw [Nat.pow_succ]; omega
theorem pow17 {V k : Nat} (h : V < 10 ^ k) (hk : k ≤ 18) : V < 1000000000000000000 := Nat.lt_of_lt_of_le h (Nat.le_trans (Nat.pow_le_pow_right (by decide) hk) (by decide))

theorem pow16 {V k : Nat} (h : V < 10 ^ k) (hk : k ≤ 17) : V < 100000000000000000 := Nat.lt_of_lt_of_le h (Nat.le_trans (Nat.pow_le_pow_right (by decide) hk) (by decide))
theorem num_step {V c : Nat} (h : V < 100000000000000000) (h1 : 48 ≤ c) (h2 : c ≤ 57) : wrap64 (wrap64 (10 * (V : Int)) + ((c : Int) - 48)) = ((10 * V + (c - 48) : Nat) : Int) := by
  unfold wrap64
  omega

set_option maxRecDepth 1000000 in
set_option maxHeartbeats 400000 in
theorem number_plus (s : ByteArray) (w : World) (h0 : (s.toList == [48]) = false) (h1 : 0 < s.size) (h18 : s.size ≤ 18) (h2 : ((s[0].toNat : Int) == 45) = false) (h3 : ((s[0].toNat : Int) == 48) = false) :
    Calls Tryd.prog 16 #[.string s] w (numPost s.data.toList w) := by
  have hp := num_plus h0 (by omega) h2
  rw [tail_scan (by omega) (by omega) h3] at hp
  have HP := Lib.hid hp
  clear hp
  have hpos : 0 < s.size := by omega
  go_enter Tryd.func16, Tryd.ntmps16
  go_wp2
  go_loop [5, 35] (fun v i => ∃ k V : Nat, k ≤ s.size ∧ i = .int .i64 k ∧ v = .int .i64 V ∧ V < 10 ^ k ∧ numScan s.data.toList 0 = numScan (s.data.toList.drop k) V) (fun _ i => s.size - (RowKit.intOf i).toNat)
  case atStart => exact ⟨0, 0, by omega, rfl, rfl, by decide, rfl⟩
  case round =>
    obtain ⟨k, V, hk, rfl, rfl, hV, hd⟩ := hrel
    have hV18 := pow17 hV (by omega)
    have HD := Lib.hid hd
    have HV := Lib.hid hV
    clear hd hV
    by_cases hlt : k < s.size
    · have hc := s[k].toNat_lt
      have HL := Lib.hid h3
      clear h3
      by_cases hd1 : s[k].toNat < 48
      · have hn : isDig s[k] = false := by unfold isDig; simp; omega
        have HN : Hid (numOf s.data.toList = none) := by show _ = _; rw [HP.out, HD.out, scan_no hlt hn]; rfl
        clear hn hV18
        go_wp2
        go_ret2
        exact numPost_none HN.out
      · by_cases hd2 : 57 < s[k].toNat
        · have hn : isDig s[k] = false := by unfold isDig; simp; omega
          have HN : Hid (numOf s.data.toList = none) := by show _ = _; rw [HP.out, HD.out, scan_no hlt hn]; rfl
          clear hn hV18
          go_wp2
          go_ret2
          exact numPost_none HN.out
        · have hn : isDig s[k] = true := by unfold isDig; simp; omega
          have HN : Hid (numScan s.data.toList 0 = numScan (s.data.toList.drop (k + 1)) (10 * V + (s[k].toNat - 48))) := by show _ = _; rw [HD.out, scan_yes hlt hn]
          have HV2 := Lib.hid (pow18 (d := s[k].toNat - 48) HV.out (by omega))
          clear hn
          have HW := Lib.hid (num_step (pow16 HV.out (by omega)) (show 48 ≤ s[k].toNat by omega) (by omega))
          go_wp2
          go_round
          case rel => exact ⟨k + 1, _, by omega, by go_num, by rw [HW.out], HV2.out, HN.out⟩
          case measure => simp [RowKit.intOf]; omega
    · obtain rfl : k = s.size := by omega
      have HN : Hid (numOf s.data.toList = some (V : Int)) := by show _ = _; rw [HP.out, HD.out, scan_end]; rfl
      go_wp2
      go_ret2
      exact numPost_some HN.out

set_option maxRecDepth 1000000 in
set_option maxHeartbeats 400000 in
theorem number_minus (s : ByteArray) (w : World) (hs : s.size ≤ 9223372036854775807) (h0 : (s.toList == [48]) = false) (h1 : 0 < s.size) (h2 : ((s[0].toNat : Int) == 45) = true) (hx : 0 < (s.extract 1 s.size).size) (h18 : (s.extract 1 s.size).size ≤ 18)
    (h3 : (((s.extract 1 s.size)[0].toNat : Int) == 48) = false) :
    Calls Tryd.prog 16 #[.string s] w (numPost s.data.toList w) := by
  have hp := num_minus h0 h1 h2
  rw [tail_scan hx h18 h3] at hp
  have HP := Lib.hid hp
  have hsz : (s.extract 1 s.size).size = s.size - 1 := by simp
  have hN : s.size - 1 ≤ 18 := by omega
  have hN1 : 0 < s.size - 1 := by omega
  have HSZ := Lib.hid hsz
  clear hp h18 hsz
  go_enter Tryd.func16, Tryd.ntmps16
  go_wp2
  generalize (s.extract 1 s.size)[0] = c0 at *
  generalize s.extract 1 s.size = t at *
  generalize s.size - 1 = N at *
  obtain rfl : N = t.size := HSZ.out.symm
  go_loop [5, 35] (fun v i => ∃ k V : Nat, k ≤ t.size ∧ i = .int .i64 k ∧ v = .int .i64 V ∧ V < 10 ^ k ∧ numScan t.data.toList 0 = numScan (t.data.toList.drop k) V) (fun _ i => t.size - (RowKit.intOf i).toNat)
  case atStart => exact ⟨0, 0, by omega, rfl, rfl, by decide, rfl⟩
  case round =>
    obtain ⟨k, V, hk, rfl, rfl, hV, hd⟩ := hrel
    have hV18 := pow17 hV (by omega)
    have HD := Lib.hid hd
    have HV := Lib.hid hV
    clear hd hV
    by_cases hlt : k < t.size
    · have hc := t[k].toNat_lt
      have HL := Lib.hid h3
      clear h3
      by_cases hd1 : t[k].toNat < 48
      · have hn : isDig t[k] = false := by unfold isDig; simp; omega
        have HN : Hid (numOf s.data.toList = none) := by show _ = _; rw [HP.out, HD.out, scan_no hlt hn]; rfl
        clear hn hV18
        go_wp2
        go_ret2
        exact numPost_none HN.out
      · by_cases hd2 : 57 < t[k].toNat
        · have hn : isDig t[k] = false := by unfold isDig; simp; omega
          have HN : Hid (numOf s.data.toList = none) := by show _ = _; rw [HP.out, HD.out, scan_no hlt hn]; rfl
          clear hn hV18
          go_wp2
          go_ret2
          exact numPost_none HN.out
        · have hn : isDig t[k] = true := by unfold isDig; simp; omega
          have HN : Hid (numScan t.data.toList 0 = numScan (t.data.toList.drop (k + 1)) (10 * V + (t[k].toNat - 48))) := by show _ = _; rw [HD.out, scan_yes hlt hn]
          have HV2 := Lib.hid (pow18 (d := t[k].toNat - 48) HV.out (by omega))
          clear hn
          have HW := Lib.hid (num_step (pow16 HV.out (by omega)) (show 48 ≤ t[k].toNat by omega) (by omega))
          go_wp2
          go_round
          case rel => exact ⟨k + 1, _, by omega, by go_num, by rw [HW.out], HV2.out, HN.out⟩
          case measure => simp [RowKit.intOf]; omega
    · obtain rfl : k = t.size := by omega
      have HN : Hid (numOf s.data.toList = some (-(V : Int))) := by show _ = _; rw [HP.out, HD.out, scan_end]; rfl
      go_wp2
      go_ret2
      exact numPost_some HN.out


set_option maxRecDepth 1000000 in
set_option maxHeartbeats 400000 in
theorem number_zero (s : ByteArray) (w : World) (h0 : (s.toList == [48]) = true) : Calls Tryd.prog 16 #[.string s] w (numPost s.data.toList w) := by
  go_enter Tryd.func16, Tryd.ntmps16
  go_wp2
  go_ret2
  exact numPost_some (num_zero h0)

set_option maxRecDepth 1000000 in
set_option maxHeartbeats 400000 in
theorem number_empty (s : ByteArray) (w : World) (h0 : (s.toList == [48]) = false) (h1 : ¬ 0 < s.size) : Calls Tryd.prog 16 #[.string s] w (numPost s.data.toList w) := by
  go_enter Tryd.func16, Tryd.ntmps16
  go_wp2
  go_ret2
  exact numPost_none (num_empty h1)

set_option maxRecDepth 1000000 in
set_option maxHeartbeats 400000 in
theorem number_plus_bad (s : ByteArray) (w : World) (h0 : (s.toList == [48]) = false) (h1 : 0 < s.size) (h2 : ((s[0].toNat : Int) == 45) = false) (hb : 18 < s.size ∨ (s.size ≤ 18 ∧ ((s[0].toNat : Int) == 48) = true)) :
    Calls Tryd.prog 16 #[.string s] w (numPost s.data.toList w) := by
  have hn : numOf s.data.toList = none := by
    rw [num_plus h0 h1 h2]
    rcases hb with h | ⟨_, h⟩
    · rw [tail_short (by omega)]; rfl
    · rw [tail_nought h1 h]; rfl
  have HN := Lib.hid hn
  clear hn
  rcases hb with h | ⟨h, h3⟩
  · go_enter Tryd.func16, Tryd.ntmps16
    go_wp2
    go_ret2
    exact numPost_none HN.out
  · go_enter Tryd.func16, Tryd.ntmps16
    go_wp2
    go_ret2
    exact numPost_none HN.out

set_option maxRecDepth 1000000 in
set_option maxHeartbeats 400000 in
theorem number_minus_bad (s : ByteArray) (w : World) (hs : s.size ≤ 9223372036854775807) (h0 : (s.toList == [48]) = false) (h1 : 0 < s.size) (h2 : ((s[0].toNat : Int) == 45) = true)
    (hb : s.size - 1 < 1 ∨ 18 < s.size - 1) : Calls Tryd.prog 16 #[.string s] w (numPost s.data.toList w) := by
  have hsz : (s.extract 1 s.size).size = s.size - 1 := by simp
  have hn : numOf s.data.toList = none := by
    rw [num_minus h0 h1 h2, tail_short (by rw [hsz]; omega)]
    rfl
  have HN := Lib.hid hn
  clear hn hsz
  rcases hb with h | h
  · go_enter Tryd.func16, Tryd.ntmps16
    go_wp2
    go_ret2
    exact numPost_none HN.out
  · go_enter Tryd.func16, Tryd.ntmps16
    go_wp2
    go_ret2
    exact numPost_none HN.out

set_option maxRecDepth 1000000 in
set_option maxHeartbeats 400000 in
theorem number_minus_nought (s : ByteArray) (w : World) (hs : s.size ≤ 9223372036854775807) (h0 : (s.toList == [48]) = false) (h1 : 0 < s.size) (h2 : ((s[0].toNat : Int) == 45) = true) (hx : 0 < (s.extract 1 s.size).size)
    (h18 : s.size - 1 ≤ 18) (h3 : (((s.extract 1 s.size)[0].toNat : Int) == 48) = true) : Calls Tryd.prog 16 #[.string s] w (numPost s.data.toList w) := by
  have hn : numOf s.data.toList = none := by
    rw [num_minus h0 h1 h2, tail_nought hx h3]
    rfl
  have HN := Lib.hid hn
  have hN1 : 0 < s.size - 1 := by simpa using hx
  clear hn
  go_enter Tryd.func16, Tryd.ntmps16
  go_wp2
  go_ret2
  exact numPost_none HN.out

theorem number_any (s : ByteArray) (w : World) (hs : s.size ≤ 9223372036854775807) : Calls Tryd.prog 16 #[.string s] w (numPost s.data.toList w) := by
  have hsz : (s.extract 1 s.size).size = s.size - 1 := by simp
  cases h0 : (s.toList == [48])
  · by_cases h1 : 0 < s.size
    · cases h2 : ((s[0].toNat : Int) == 45)
      · cases h3 : ((s[0].toNat : Int) == 48)
        · by_cases h : s.size ≤ 18
          · exact number_plus s w h0 h1 h h2 h3
          · exact number_plus_bad s w h0 h1 h2 (Or.inl (by omega))
        · by_cases h : s.size ≤ 18
          · exact number_plus_bad s w h0 h1 h2 (Or.inr ⟨h, h3⟩)
          · exact number_plus_bad s w h0 h1 h2 (Or.inl (by omega))
      · by_cases h : s.size - 1 < 1 ∨ 18 < s.size - 1
        · exact number_minus_bad s w hs h0 h1 h2 h
        · have hx : 0 < (s.extract 1 s.size).size := by omega
          cases h3 : (((s.extract 1 s.size)[0].toNat : Int) == 48)
          · exact number_minus s w hs h0 h1 h2 hx (by omega) h3
          · exact number_minus_nought s w hs h0 h1 h2 hx (by omega) h3
    · exact number_empty s w h0 h1
  · exact number_zero s w h0

end Go.Proofs.YtdkafkdilmheiaaDoor
