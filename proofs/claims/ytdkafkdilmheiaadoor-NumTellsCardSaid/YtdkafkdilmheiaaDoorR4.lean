/-
  Walks over the document's own answers to chapter 1: the number of a text's digits.
-/
import Derived.Test.YtdkafkdilmheiaaDoorW9
namespace Go.Proofs.YtdkafkdilmheiaaDoor
open Go.RowKit Go.Lib

theorem num_step2 {V c : Nat} (h : V < 100000000000000000) (h1 : 48 ≤ c) (h2 : c ≤ 57) : wrap64 (wrap64 ((V : Int) * 10) + ((c : Int) - 48)) = ((10 * V + (c - 48) : Nat) : Int) := by
  unfold wrap64
  omega

theorem more_than_one {s : ByteArray} (h0 : (s.toList == [48]) = false) (h1 : 0 < s.size) (h : ((s[0].toNat : Int) == 48) = true) : 1 < s.size := by
  refine Nat.lt_of_not_le fun hle => num_ne h0 ?_
  have e := WalkArith.int_eq h
  have e1 : s[0] = 48 := UInt8.toNat_inj.1 (by show s[0].toNat = 48; omega)
  have e2 := drop_cons s 0 h1
  rw [List.drop_zero, e1, List.drop_eq_nil_of_le (by simp; omega)] at e2
  exact e2

set_option maxRecDepth 1000000 in
set_option maxHeartbeats 400000 in
theorem refNumber_plus (s : ByteArray) (w : World) (h0 : (s.toList == [48]) = false) (h1 : 0 < s.size) (h18 : s.size ≤ 18) (h2 : ((s[0].toNat : Int) == 45) = false) (h3 : ((s[0].toNat : Int) == 48) = false) :
    Calls Tryd.prog 17 #[.string s] w (numPost s.data.toList w) := by
  have hp := num_plus h0 (by omega) h2
  rw [tail_scan (by omega) (by omega) h3] at hp
  have HP := Lib.hid hp
  clear hp
  have hpos : 0 < s.size := by omega
  go_enter Tryd.func17, Tryd.ntmps17
  go_wp2
  go_loop [6, 7] (fun v i => ∃ k V : Nat, k ≤ s.size ∧ i = .int .i64 k ∧ v = .int .i64 V ∧ V < 10 ^ k ∧ numScan s.data.toList 0 = numScan (s.data.toList.drop k) V) (fun _ i => s.size - (RowKit.intOf i).toNat)
  case atStart => exact ⟨0, 0, by omega, rfl, rfl, by decide, rfl⟩
  case round =>
    obtain ⟨k, V, hk, rfl, rfl, hV, hd⟩ := hrel
    have hV18 := pow17 hV (by omega)
    have HD := Lib.hid hd
    have HV := Lib.hid hV
    clear hd hV
    by_cases hlt : k < s.size
    · have hc := s[k].toNat_lt
      have HL := Lib.hid h3
      clear h3
      by_cases hd1 : s[k].toNat < 48
      · have hn : isDig s[k] = false := by unfold isDig; simp; omega
        have HN : Hid (numOf s.data.toList = none) := by show _ = _; rw [HP.out, HD.out, scan_no hlt hn]; rfl
        clear hn hV18
        go_wp2
        go_ret2
        exact numPost_none HN.out
      · by_cases hd2 : 57 < s[k].toNat
        · have hn : isDig s[k] = false := by unfold isDig; simp; omega
          have HN : Hid (numOf s.data.toList = none) := by show _ = _; rw [HP.out, HD.out, scan_no hlt hn]; rfl
          clear hn hV18
          go_wp2
          go_ret2
          exact numPost_none HN.out
        · have hn : isDig s[k] = true := by unfold isDig; simp; omega
          have HN : Hid (numScan s.data.toList 0 = numScan (s.data.toList.drop (k + 1)) (10 * V + (s[k].toNat - 48))) := by show _ = _; rw [HD.out, scan_yes hlt hn]
          have HV2 := Lib.hid (pow18 (d := s[k].toNat - 48) HV.out (by omega))
          clear hn
          have HW := Lib.hid (num_step2 (pow16 HV.out (by omega)) (show 48 ≤ s[k].toNat by omega) (by omega))
          go_wp2
          go_round
          case rel => exact ⟨k + 1, _, by omega, by go_num, by rw [HW.out], HV2.out, HN.out⟩
          case measure => simp [RowKit.intOf]; omega
    · obtain rfl : k = s.size := by omega
      have HN : Hid (numOf s.data.toList = some (V : Int)) := by show _ = _; rw [HP.out, HD.out, scan_end]; rfl
      go_wp2
      go_ret2
      exact numPost_some HN.out

set_option maxRecDepth 1000000 in
set_option maxHeartbeats 400000 in
theorem refNumber_minus (s : ByteArray) (w : World) (hs : s.size ≤ 9223372036854775807) (h0 : (s.toList == [48]) = false) (h1 : 0 < s.size) (h2 : ((s[0].toNat : Int) == 45) = true) (hx : 0 < (s.extract 1 s.size).size) (h18 : (s.extract 1 s.size).size ≤ 18)
    (h3 : (((s.extract 1 s.size)[0].toNat : Int) == 48) = false) :
    Calls Tryd.prog 17 #[.string s] w (numPost s.data.toList w) := by
  have hp := num_minus h0 h1 h2
  rw [tail_scan hx h18 h3] at hp
  have HP := Lib.hid hp
  have hsz : (s.extract 1 s.size).size = s.size - 1 := by simp
  have hN : s.size - 1 ≤ 18 := by omega
  have hN1 : 0 < s.size - 1 := by omega
  have HSZ := Lib.hid hsz
  clear hp h18 hsz
  go_enter Tryd.func17, Tryd.ntmps17
  go_wp2
  generalize (s.extract 1 s.size)[0] = c0 at *
  generalize s.extract 1 s.size = t at *
  generalize s.size - 1 = N at *
  obtain rfl : N = t.size := HSZ.out.symm
  go_loop [6, 7] (fun v i => ∃ k V : Nat, k ≤ t.size ∧ i = .int .i64 k ∧ v = .int .i64 V ∧ V < 10 ^ k ∧ numScan t.data.toList 0 = numScan (t.data.toList.drop k) V) (fun _ i => t.size - (RowKit.intOf i).toNat)
  case atStart => exact ⟨0, 0, by omega, rfl, rfl, by decide, rfl⟩
  case round =>
    obtain ⟨k, V, hk, rfl, rfl, hV, hd⟩ := hrel
    have hV18 := pow17 hV (by omega)
    have HD := Lib.hid hd
    have HV := Lib.hid hV
    clear hd hV
    by_cases hlt : k < t.size
    · have hc := t[k].toNat_lt
      have HL := Lib.hid h3
      clear h3
      by_cases hd1 : t[k].toNat < 48
      · have hn : isDig t[k] = false := by unfold isDig; simp; omega
        have HN : Hid (numOf s.data.toList = none) := by show _ = _; rw [HP.out, HD.out, scan_no hlt hn]; rfl
        clear hn hV18
        go_wp2
        go_ret2
        exact numPost_none HN.out
      · by_cases hd2 : 57 < t[k].toNat
        · have hn : isDig t[k] = false := by unfold isDig; simp; omega
          have HN : Hid (numOf s.data.toList = none) := by show _ = _; rw [HP.out, HD.out, scan_no hlt hn]; rfl
          clear hn hV18
          go_wp2
          go_ret2
          exact numPost_none HN.out
        · have hn : isDig t[k] = true := by unfold isDig; simp; omega
          have HN : Hid (numScan t.data.toList 0 = numScan (t.data.toList.drop (k + 1)) (10 * V + (t[k].toNat - 48))) := by show _ = _; rw [HD.out, scan_yes hlt hn]
          have HV2 := Lib.hid (pow18 (d := t[k].toNat - 48) HV.out (by omega))
          clear hn
          have HW := Lib.hid (num_step2 (pow16 HV.out (by omega)) (show 48 ≤ t[k].toNat by omega) (by omega))
          go_wp2
          go_round
          case rel => exact ⟨k + 1, _, by omega, by go_num, by rw [HW.out], HV2.out, HN.out⟩
          case measure => simp [RowKit.intOf]; omega
    · obtain rfl : k = t.size := by omega
      have HN : Hid (numOf s.data.toList = some (-(V : Int))) := by show _ = _; rw [HP.out, HD.out, scan_end]; rfl
      go_wp2
      go_ret2
      exact numPost_some HN.out


set_option maxRecDepth 1000000 in
set_option maxHeartbeats 400000 in
theorem refNumber_zero (w : World) : Calls Tryd.prog 17 #[.string ⟨#[48]⟩] w (numPost [48] w) := by
  go_enter Tryd.func17, Tryd.ntmps17
  go_wp2
  go_loop [6, 7] (fun v i => v = .int .i64 0 ∧ (i = .int .i64 0 ∨ i = .int .i64 1)) (fun _ i => 1 - (RowKit.intOf i).toNat)
  case atStart => exact ⟨rfl, Or.inl rfl⟩
  case round =>
    obtain ⟨rfl, rfl | rfl⟩ := hrel
    · go_wp2
      exact ⟨⟨rfl, Or.inr rfl⟩, by simp [RowKit.intOf]⟩
    · go_wp2
      go_ret2
      exact numPost_some rfl

set_option maxRecDepth 1000000 in
set_option maxHeartbeats 400000 in
theorem refNumber_empty (s : ByteArray) (w : World) (_h0 : (s.toList == [48]) = false) (h1 : ¬ 0 < s.size) : Calls Tryd.prog 17 #[.string s] w (numPost s.data.toList w) := by
  go_enter Tryd.func17, Tryd.ntmps17
  go_wp2
  go_ret2
  exact numPost_none (num_empty h1)

set_option maxRecDepth 1000000 in
set_option maxHeartbeats 400000 in
theorem refNumber_plus_bad (s : ByteArray) (w : World) (h0 : (s.toList == [48]) = false) (h1 : 0 < s.size) (h2 : ((s[0].toNat : Int) == 45) = false) (hb : 18 < s.size ∨ (s.size ≤ 18 ∧ ((s[0].toNat : Int) == 48) = true)) :
    Calls Tryd.prog 17 #[.string s] w (numPost s.data.toList w) := by
  have hn : numOf s.data.toList = none := by
    rw [num_plus h0 h1 h2]
    rcases hb with h | ⟨_, h⟩
    · rw [tail_short (by omega)]; rfl
    · rw [tail_nought h1 h]; rfl
  have HN := Lib.hid hn
  clear hn
  rcases hb with h | ⟨h, h3⟩
  · go_enter Tryd.func17, Tryd.ntmps17
    go_wp2
    go_ret2
    exact numPost_none HN.out
  · have hs1 := more_than_one h0 h1 h3
    go_enter Tryd.func17, Tryd.ntmps17
    go_wp2
    go_ret2
    exact numPost_none HN.out

set_option maxRecDepth 1000000 in
set_option maxHeartbeats 400000 in
theorem refNumber_minus_bad (s : ByteArray) (w : World) (hs : s.size ≤ 9223372036854775807) (h0 : (s.toList == [48]) = false) (h1 : 0 < s.size) (h2 : ((s[0].toNat : Int) == 45) = true)
    (hb : s.size - 1 < 1 ∨ 18 < s.size - 1) : Calls Tryd.prog 17 #[.string s] w (numPost s.data.toList w) := by
  have hsz : (s.extract 1 s.size).size = s.size - 1 := by simp
  have hn : numOf s.data.toList = none := by
    rw [num_minus h0 h1 h2, tail_short (by rw [hsz]; omega)]
    rfl
  have HN := Lib.hid hn
  clear hn hsz
  rcases hb with h | h
  · go_enter Tryd.func17, Tryd.ntmps17
    go_wp2
    go_ret2
    exact numPost_none HN.out
  · go_enter Tryd.func17, Tryd.ntmps17
    go_wp2
    go_ret2
    exact numPost_none HN.out

set_option maxRecDepth 1000000 in
set_option maxHeartbeats 400000 in
theorem refNumber_minus_nought (s : ByteArray) (w : World) (hs : s.size ≤ 9223372036854775807) (h0 : (s.toList == [48]) = false) (h1 : 0 < s.size) (h2 : ((s[0].toNat : Int) == 45) = true) (hx : 0 < (s.extract 1 s.size).size)
    (h18 : s.size - 1 ≤ 18) (h3 : (((s.extract 1 s.size)[0].toNat : Int) == 48) = true) : Calls Tryd.prog 17 #[.string s] w (numPost s.data.toList w) := by
  have hn : numOf s.data.toList = none := by
    rw [num_minus h0 h1 h2, tail_nought hx h3]
    rfl
  have HN := Lib.hid hn
  have hN1 : 0 < s.size - 1 := by simpa using hx
  clear hn
  by_cases hm : 1 < s.size - 1
  · go_enter Tryd.func17, Tryd.ntmps17
    go_wp2
    go_ret2
    exact numPost_none HN.out
  · go_enter Tryd.func17, Tryd.ntmps17
    go_wp2
    go_ret2
    exact numPost_none HN.out

theorem refNumber_any (s : ByteArray) (w : World) (hs : s.size ≤ 9223372036854775807) : Calls Tryd.prog 17 #[.string s] w (numPost s.data.toList w) := by
  have hsz : (s.extract 1 s.size).size = s.size - 1 := by simp
  cases h0 : (s.toList == [48])
  · by_cases h1 : 0 < s.size
    · cases h2 : ((s[0].toNat : Int) == 45)
      · cases h3 : ((s[0].toNat : Int) == 48)
        · by_cases h : s.size ≤ 18
          · exact refNumber_plus s w h0 h1 h h2 h3
          · exact refNumber_plus_bad s w h0 h1 h2 (Or.inl (by omega))
        · by_cases h : s.size ≤ 18
          · exact refNumber_plus_bad s w h0 h1 h2 (Or.inr ⟨h, h3⟩)
          · exact refNumber_plus_bad s w h0 h1 h2 (Or.inl (by omega))
      · by_cases h : s.size - 1 < 1 ∨ 18 < s.size - 1
        · exact refNumber_minus_bad s w hs h0 h1 h2 h
        · have hx : 0 < (s.extract 1 s.size).size := by omega
          cases h3 : (((s.extract 1 s.size)[0].toNat : Int) == 48)
          · exact refNumber_minus s w hs h0 h1 h2 hx (by omega) h3
          · exact refNumber_minus_nought s w hs h0 h1 h2 hx (by omega) h3
    · exact refNumber_empty s w h0 h1
  · rw [ByteArray.toList_eq] at h0
    have e : s = ⟨#[48]⟩ := by
      apply ByteArray.ext
      apply Array.ext'
      exact eq_of_beq h0
    subst e
    exact refNumber_zero w

end Go.Proofs.YtdkafkdilmheiaaDoor
