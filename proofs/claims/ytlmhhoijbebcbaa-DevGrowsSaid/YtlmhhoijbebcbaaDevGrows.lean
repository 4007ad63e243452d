/-
  DevGrows: a device has room for just so many pages; new pages are noughts; no page goes: for every three ints. Conditions: none but those of the given statement.
-/
import Derived.Test.YtlmhhoijbebcbaaE1
import Derived.Test.YtlmhhoijbebcbaaFrameS
namespace Go.Proofs.Ytlmhhoijbebcbaa.devGrows
open Go.ChangeShapes Go.WideShapes Go.ChangeAt Go.RowKit Go.Lib

/-- 256 noughts, as cells. -/
def zeros : Array Value := (List.replicate 256 (Value.int .u8 0)).toArray
theorem make_zeros (w : World) : (Instr.makeSlice 35 (.int .i64 256) (.int .i64 256)).run Try.prog w = .ok (.slice (some ⟨w.heap.size, 0, none⟩) 256 256) (w.alloc (.cells zeros 5)) := by kernel_rfl
theorem zeros_text (w : World) : (convert 35 9 (.slice (some ⟨w.heap.size, 0, none⟩) 256 256)).run Try.prog (w.alloc (.cells zeros 5)) = .ok (.string blank) (w.alloc (.cells zeros 5)) := by
  have h : Row (w.alloc (.cells zeros 5)) 0 (.slice (some ⟨w.heap.size, 0, none⟩) 256 256) (List.replicate 256 (0 : UInt8)) := by
    unfold Row
    rw [List.length_replicate]
    have := World.ownsRow_lit (e := 5) (size := 1) (base := 0) w zeros 256 (Nat.zero_le _) (by unfold maxLen; omega) (by show (List.replicate 256 (Value.int .u8 0)).toArray.size = _; rw [List.size_toArray, List.length_replicate])
    have e : zeros.toList = byteCells (List.replicate 256 (0 : UInt8)) := by
      show List.replicate 256 (Value.int .u8 0) = _
      unfold byteCells
      rw [List.map_replicate]
      rfl
    rw [e] at this
    exact this
  exact row_string h

/-- A device of k blank pages. -/
structure Blank (s : DevS) (k : Nat) (m : Int) : Prop where
  idle : Idle s
  pages : s.pages = List.replicate k blank
  most : s.most = m
theorem Blank.len {s : DevS} {k : Nat} {m : Int} (h : Blank s k m) : s.pages.length = k := by rw [h.pages, List.length_replicate]
theorem Blank.longer {s : DevS} {k : Nat} {m : Int} (h : Blank s k m) (j : Nat) : Blank (longer s j) (k + j) m := ⟨longer_idle h.idle j, by simp [Go.Proofs.Ytlmhhoijbebcbaa.longer, h.pages, List.replicate_append_replicate], h.most⟩
theorem Blank.less {s : DevS} {k : Nat} {m : Int} (h : Blank s k m) {n : Int} (hn : n < k) : growAE s n = 1 ∧ growAS s n = s := by
  rw [(h.idle.grow n).1, (h.idle.grow n).2]
  have e : growE s n = 1 := by unfold growE; rw [h.len, if_pos hn]
  unfold growS
  rw [e]
  exact ⟨rfl, rfl⟩
theorem Blank.more {s : DevS} {k : Nat} {m : Int} (h : Blank s k m) {n : Int} (hn : ¬ n < k) (hm : m < n) : growAE s n = 10 ∧ growAS s n = s := by
  rw [(h.idle.grow n).1, (h.idle.grow n).2]
  have e : growE s n = 10 := by unfold growE; rw [h.len, if_neg hn, h.most, if_pos hm]
  unfold growS
  rw [e]
  exact ⟨rfl, rfl⟩
theorem Blank.grown {s : DevS} {k : Nat} {m : Int} (h : Blank s k m) {n : Nat} (hn : k ≤ n) (hm : (n : Int) ≤ m) : growAE s n = 0 ∧ growAS s n = Go.Proofs.Ytlmhhoijbebcbaa.longer s (n - k) := by
  rw [(h.idle.grow n).1, (h.idle.grow n).2]
  have e : growE s n = 0 := by unfold growE; rw [h.len, if_neg (by omega), h.most, if_neg (by omega)]
  unfold growS
  rw [e, h.len]
  exact ⟨rfl, rfl⟩
theorem Blank.read {s : DevS} {k : Nat} {m : Int} (h : Blank s k m) {j : Nat} (hj : j < k) : readB s j = blank ∧ readE s j = 0 := by
  have hl := h.len
  unfold readB readE
  rw [if_pos ⟨h.idle.on, by omega⟩, if_pos h.idle.on, if_pos ⟨by omega, by omega⟩, h.pages, Int.toNat_natCast, List.getElem?_replicate, if_pos hj]
  exact ⟨rfl, rfl⟩
theorem Blank.beyond {s : DevS} {k : Nat} {m : Int} (h : Blank s k m) : readB s k = ByteArray.empty ∧ readE s k = 3 := by
  have hl := h.len
  unfold readB readE
  rw [if_pos ⟨h.idle.on, by omega⟩, if_pos h.idle.on, if_neg (by omega), h.pages, Int.toNat_natCast, List.getElem?_replicate, if_neg (by omega)]
  exact ⟨rfl, rfl⟩

set_option maxRecDepth 1000000 in
set_option maxHeartbeats 800000 in
theorem walk_bad (w : World) (m a b : Int) (h : m < 1 ∨ 3000 < m) : Calls Try.prog 7 #[.int .i64 m, .int .i64 a, .int .i64 b] w fun e w' => e = .returned (.bool true) ∧ Below w.heap.size w w' := by
  have hn := new_bad m w h
  by_cases h1 : m < 1
  · have hb : decide (m < 1) = true := by simpa using h1
    clear h
    go_enter Try.func7, Try.ntmps7
    go_wp2_with (first | (go_at_call 21; refine hn.mono ?_; rintro e w' ⟨rfl, rfl⟩) | (go_at_call 13; refine (alive_walk _).mono ?_; rintro e w2 ⟨rfl, hb2⟩))
    go_ret
    exact ⟨rfl, hb2⟩
  · have hb : decide (m < 1) = false := by simpa using h1
    have h2 : 3000 < m := by omega
    clear h
    go_enter Try.func7, Try.ntmps7
    go_wp2_with (first | (go_at_call 21; refine hn.mono ?_; rintro e w' ⟨rfl, rfl⟩) | (go_at_call 13; refine (alive_walk _).mono ?_; rintro e w2 ⟨rfl, hb2⟩))
    go_ret
    exact ⟨rfl, hb2⟩

set_option maxRecDepth 1000000 in
set_option maxHeartbeats 800000 in
theorem walk_wide (w : World) (m a b : Int) (h1 : 60 < m) (h2 : m ≤ 3000) : Calls Try.prog 7 #[.int .i64 m, .int .i64 a, .int .i64 b] w fun e w' => e = .returned (.bool true) ∧ Below w.heap.size w w' := by
  go_enter Try.func7, Try.ntmps7
  go_wp2_with fail
  refine (new_ok m w (by omega) (by omega)).mono ?_
  rintro e w1 ⟨rfl, -, hb1⟩
  have H1 := Lib.hid hb1
  clear hb1
  go_wp2_with (go_at_call 13; refine (alive_walk _).mono ?_; rintro e w2 ⟨rfl, hb2⟩)
  go_ret
  exact ⟨rfl, H1.out.trans (hb2.mono H1.out.size)⟩

/-- What is carried from the second Grow on. -/
def At (w1 : World) (p N : Nat) (m : Int) (wr : World) : Prop := ∃ s F, Blank s N m ∧ DevAt wr p s F ∧ Goes [p] w1 F wr
theorem At.below {w1 wr w' : World} {p N : Nat} {m : Int} (h : At w1 p N m wr) (hb : Below wr.heap.size wr w') : At w1 p N m w' := by
  obtain ⟨s, F, h1, h2, h3⟩ := h
  obtain ⟨h4, h5⟩ := h2.goes hb
  exact ⟨s, F, h1, h4, h3.trans h5⟩
theorem At.len_ {w1 wr : World} {p N : Nat} {m : Int} (h : At w1 p N m wr) : Calls Try.prog 17 #[.pointer (some ⟨p, 0, none⟩)] wr fun e w' => e = .returned (.int .i64 N) ∧ wr = w' := by
  obtain ⟨s, F, h1, h2, h3⟩ := h
  have := len_any p s F wr h2
  rw [h1.len] at this
  exact this
theorem At.read_ {w1 wr : World} {p N : Nat} {m : Int} (h : At w1 p N m wr) {j : Nat} (hj : j < N) : Calls Try.prog 9 #[.pointer (some ⟨p, 0, none⟩), .int .i64 j] wr fun e w' => e = .returned (.tuple #[.string blank, .int .i64 0]) ∧ Below wr.heap.size wr w' := by
  obtain ⟨s, F, h1, h2, h3⟩ := h
  have := read_any p s F j wr h2
  rw [(h1.read hj).1, (h1.read hj).2] at this
  exact this
theorem At.beyond_ {w1 wr : World} {p N : Nat} {m : Int} (h : At w1 p N m wr) : Calls Try.prog 9 #[.pointer (some ⟨p, 0, none⟩), .int .i64 N] wr fun e w' => e = .returned (.tuple #[.string ByteArray.empty, .int .i64 3]) ∧ Below wr.heap.size wr w' := by
  obtain ⟨s, F, h1, h2, h3⟩ := h
  have := read_any p s F N wr h2
  rw [h1.beyond.1, h1.beyond.2] at this
  exact this
theorem newS_blank (m : Int) : Blank (newS m) 0 m := ⟨newS_idle m, rfl, rfl⟩

set_option maxRecDepth 1000000 in
set_option maxHeartbeats 1600000 in
theorem walk_a_less (w : World) (m a b : Int) (hm1 : 1 ≤ m) (hm2 : m ≤ 60) (h : a < 0) : Calls Try.prog 7 #[.int .i64 m, .int .i64 a, .int .i64 b] w fun e w' => e = .returned (.bool true) ∧ Below w.heap.size w w' := by
  have HE := Lib.hid ((newS_blank m).less (n := a) (by omega))
  have HB := Lib.hid (newS_blank m)
  have had : decide (0 ≤ a) = false := by simpa using h
  go_enter Try.func7, Try.ntmps7
  go_wp2_with fail
  refine (new_ok m w (by omega) (by omega)).mono ?_
  rintro e w1 ⟨rfl, hd, hb1⟩
  have hgr := grow_any w.heap.size (newS m) _ a w1 hd
  rw [HE.out.1, HE.out.2] at hgr
  have H1 := Lib.hid hb1
  clear hd hb1
  go_wp2_with fail
  refine hgr.mono ?_
  rintro e w2 ⟨rfl, F2, hd, hg2⟩
  have hlen := len_any w.heap.size _ F2 w2 hd
  rw [HB.out.len] at hlen
  have hgr2 := grow_any w.heap.size _ F2 b w2 hd
  have HG := Lib.hid hg2
  clear hd hg2 hgr
  go_wp2_with (go_at_call 17; refine hlen.mono ?_; rintro e w' ⟨rfl, rfl⟩)
  by_cases hb1 : b < (0 : Int)
  · have hBb := HB.out
    rw [(HB.out.less hb1).1, (HB.out.less hb1).2] at hgr2
    have hbd : decide ((0 : Int) ≤ b) = false := by simpa using hb1
    refine hgr2.mono ?_
    rintro e w3 ⟨rfl, F3, hd3, hg3⟩
    have HAT : Hid (At w1 w.heap.size 0 m w3) := ⟨_, F3, hBb, hd3, HG.out.trans hg3⟩
    clear hd3 hg3 hgr2 hBb
    go_wp2_with fail
    go_loopw [12] (fun i wr => ∃ j : Nat, j ≤ 0 ∧ i = .int .i64 j ∧ At w1 w.heap.size 0 m wr) (fun i _ => 0 - (RowKit.intOf i).toNat)
    case atStart => exact ⟨0, Nat.zero_le _, rfl, HAT.out⟩
    case round =>
      clear HAT
      obtain ⟨j, hj, rfl, hat⟩ := hrel
      have hlen := hat.len_
      by_cases hlt : j < 0
      · have hrd := hat.read_ hlt
        have HA := Lib.hid hat
        have hlt' : (j : Int) < (0 : Int) := by omega
        have hmk := make_zeros
        have hcv := zeros_text
        clear hat
        go_wp2_with (go_at_call 17; refine hlen.mono ?_; rintro e w' ⟨rfl, rfl⟩)
        refine hrd.mono ?_
        rintro e w5 ⟨rfl, hb5⟩
        have HA5 := Lib.hid (HA.out.below hb5)
        clear hb5 hrd
        go_wp2
        go_roundw
        case rel => exact ⟨j + 1, by omega, by go_num, HA5.out.below ((Below.refl _ _).alloc (Nat.le_refl _) _)⟩
        case measure => simp [RowKit.intOf]; omega
      · obtain rfl : j = 0 := by omega
        have hrd := hat.beyond_
        have HA := Lib.hid hat
        clear hat
        go_wp2_with (go_at_call 17; refine hlen.mono ?_; rintro e w' ⟨rfl, rfl⟩)
        refine hrd.mono ?_
        rintro e w5 ⟨rfl, hb5⟩
        have HA5 := Lib.hid (HA.out.below hb5)
        clear hb5 hrd
        go_wp2_with fail
        refine (alive_walk _).mono ?_
        rintro e w6 ⟨rfl, hb6⟩
        have hfin : Below w.heap.size w w6 := by
          obtain ⟨s, F, _, _, h3⟩ := HA5.out.below hb6
          exact H1.out.trans (h3.1.below H1.out.size (by simp))
        have HFIN := Lib.hid hfin
        clear hb6 hfin
        go_wp2
        go_ret
        exact ⟨rfl, HFIN.out⟩
  · by_cases hb2 : m < b
    · have hBb := HB.out
      rw [(HB.out.more hb1 hb2).1, (HB.out.more hb1 hb2).2] at hgr2
      have hbd : decide ((0 : Int) ≤ b) = true := by simp; omega
      have hbe : decide (b ≤ m) = false := by simp; omega
      refine hgr2.mono ?_
      rintro e w3 ⟨rfl, F3, hd3, hg3⟩
      have HAT : Hid (At w1 w.heap.size 0 m w3) := ⟨_, F3, hBb, hd3, HG.out.trans hg3⟩
      clear hd3 hg3 hgr2 hBb
      go_wp2_with fail
      go_loopw [12] (fun i wr => ∃ j : Nat, j ≤ 0 ∧ i = .int .i64 j ∧ At w1 w.heap.size 0 m wr) (fun i _ => 0 - (RowKit.intOf i).toNat)
      case atStart => exact ⟨0, Nat.zero_le _, rfl, HAT.out⟩
      case round =>
        clear HAT
        obtain ⟨j, hj, rfl, hat⟩ := hrel
        have hlen := hat.len_
        by_cases hlt : j < 0
        · have hrd := hat.read_ hlt
          have HA := Lib.hid hat
          have hlt' : (j : Int) < (0 : Int) := by omega
          have hmk := make_zeros
          have hcv := zeros_text
          clear hat
          go_wp2_with (go_at_call 17; refine hlen.mono ?_; rintro e w' ⟨rfl, rfl⟩)
          refine hrd.mono ?_
          rintro e w5 ⟨rfl, hb5⟩
          have HA5 := Lib.hid (HA.out.below hb5)
          clear hb5 hrd
          go_wp2
          go_roundw
          case rel => exact ⟨j + 1, by omega, by go_num, HA5.out.below ((Below.refl _ _).alloc (Nat.le_refl _) _)⟩
          case measure => simp [RowKit.intOf]; omega
        · obtain rfl : j = 0 := by omega
          have hrd := hat.beyond_
          have HA := Lib.hid hat
          clear hat
          go_wp2_with (go_at_call 17; refine hlen.mono ?_; rintro e w' ⟨rfl, rfl⟩)
          refine hrd.mono ?_
          rintro e w5 ⟨rfl, hb5⟩
          have HA5 := Lib.hid (HA.out.below hb5)
          clear hb5 hrd
          go_wp2_with fail
          refine (alive_walk _).mono ?_
          rintro e w6 ⟨rfl, hb6⟩
          have hfin : Below w.heap.size w w6 := by
            obtain ⟨s, F, _, _, h3⟩ := HA5.out.below hb6
            exact H1.out.trans (h3.1.below H1.out.size (by simp))
          have HFIN := Lib.hid hfin
          clear hb6 hfin
          go_wp2
          go_ret
          exact ⟨rfl, HFIN.out⟩
    · obtain ⟨k, rfl⟩ : ∃ k : Nat, b = k := ⟨b.toNat, by omega⟩
      have hkL : 0 ≤ k := by omega
      have hkm : (k : Int) ≤ m := by omega
      have hBb := HB.out.longer (k - 0)
      rw [show 0 + (k - 0) = k by omega] at hBb
      rw [(HB.out.grown hkL hkm).1, (HB.out.grown hkL hkm).2] at hgr2
      have hbd : decide ((0 : Int) ≤ (k : Int)) = true := decide_eq_true (by omega)
      have hbe : decide ((k : Int) ≤ m) = true := by simp; omega
      refine hgr2.mono ?_
      rintro e w3 ⟨rfl, F3, hd3, hg3⟩
      have HAT : Hid (At w1 w.heap.size k m w3) := ⟨_, F3, hBb, hd3, HG.out.trans hg3⟩
      clear hd3 hg3 hgr2 hBb
      go_wp2_with fail
      go_loopw [12] (fun i wr => ∃ j : Nat, j ≤ k ∧ i = .int .i64 j ∧ At w1 w.heap.size k m wr) (fun i _ => k - (RowKit.intOf i).toNat)
      case atStart => exact ⟨0, Nat.zero_le _, rfl, HAT.out⟩
      case round =>
        clear HAT
        obtain ⟨j, hj, rfl, hat⟩ := hrel
        have hlen := hat.len_
        by_cases hlt : j < k
        · have hrd := hat.read_ hlt
          have HA := Lib.hid hat
          have hlt' : (j : Int) < (k : Int) := by omega
          have hmk := make_zeros
          have hcv := zeros_text
          clear hat
          go_wp2_with (go_at_call 17; refine hlen.mono ?_; rintro e w' ⟨rfl, rfl⟩)
          refine hrd.mono ?_
          rintro e w5 ⟨rfl, hb5⟩
          have HA5 := Lib.hid (HA.out.below hb5)
          clear hb5 hrd
          go_wp2
          go_roundw
          case rel => exact ⟨j + 1, by omega, by go_num, HA5.out.below ((Below.refl _ _).alloc (Nat.le_refl _) _)⟩
          case measure => simp [RowKit.intOf]; omega
        · obtain rfl : j = k := by omega
          have hrd := hat.beyond_
          have HA := Lib.hid hat
          clear hat
          go_wp2_with (go_at_call 17; refine hlen.mono ?_; rintro e w' ⟨rfl, rfl⟩)
          refine hrd.mono ?_
          rintro e w5 ⟨rfl, hb5⟩
          have HA5 := Lib.hid (HA.out.below hb5)
          clear hb5 hrd
          go_wp2_with fail
          refine (alive_walk _).mono ?_
          rintro e w6 ⟨rfl, hb6⟩
          have hfin : Below w.heap.size w w6 := by
            obtain ⟨s, F, _, _, h3⟩ := HA5.out.below hb6
            exact H1.out.trans (h3.1.below H1.out.size (by simp))
          have HFIN := Lib.hid hfin
          clear hb6 hfin
          go_wp2
          go_ret
          exact ⟨rfl, HFIN.out⟩

set_option maxRecDepth 1000000 in
set_option maxHeartbeats 1600000 in
theorem walk_a_more (w : World) (m a b : Int) (hm1 : 1 ≤ m) (hm2 : m ≤ 60) (h0 : 0 ≤ a) (h : m < a) : Calls Try.prog 7 #[.int .i64 m, .int .i64 a, .int .i64 b] w fun e w' => e = .returned (.bool true) ∧ Below w.heap.size w w' := by
  have HE := Lib.hid ((newS_blank m).more (n := a) (by omega) h)
  have HB := Lib.hid (newS_blank m)
  have had : decide (0 ≤ a) = true := by simpa using h0
  have hae : decide (a ≤ m) = false := by simpa using h
  go_enter Try.func7, Try.ntmps7
  go_wp2_with fail
  refine (new_ok m w (by omega) (by omega)).mono ?_
  rintro e w1 ⟨rfl, hd, hb1⟩
  have hgr := grow_any w.heap.size (newS m) _ a w1 hd
  rw [HE.out.1, HE.out.2] at hgr
  have H1 := Lib.hid hb1
  clear hd hb1
  go_wp2_with fail
  refine hgr.mono ?_
  rintro e w2 ⟨rfl, F2, hd, hg2⟩
  have hlen := len_any w.heap.size _ F2 w2 hd
  rw [HB.out.len] at hlen
  have hgr2 := grow_any w.heap.size _ F2 b w2 hd
  have HG := Lib.hid hg2
  clear hd hg2 hgr
  go_wp2_with (go_at_call 17; refine hlen.mono ?_; rintro e w' ⟨rfl, rfl⟩)
  by_cases hb1 : b < (0 : Int)
  · have hBb := HB.out
    rw [(HB.out.less hb1).1, (HB.out.less hb1).2] at hgr2
    have hbd : decide ((0 : Int) ≤ b) = false := by simpa using hb1
    refine hgr2.mono ?_
    rintro e w3 ⟨rfl, F3, hd3, hg3⟩
    have HAT : Hid (At w1 w.heap.size 0 m w3) := ⟨_, F3, hBb, hd3, HG.out.trans hg3⟩
    clear hd3 hg3 hgr2 hBb
    go_wp2_with fail
    go_loopw [12] (fun i wr => ∃ j : Nat, j ≤ 0 ∧ i = .int .i64 j ∧ At w1 w.heap.size 0 m wr) (fun i _ => 0 - (RowKit.intOf i).toNat)
    case atStart => exact ⟨0, Nat.zero_le _, rfl, HAT.out⟩
    case round =>
      clear HAT
      obtain ⟨j, hj, rfl, hat⟩ := hrel
      have hlen := hat.len_
      by_cases hlt : j < 0
      · have hrd := hat.read_ hlt
        have HA := Lib.hid hat
        have hlt' : (j : Int) < (0 : Int) := by omega
        have hmk := make_zeros
        have hcv := zeros_text
        clear hat
        go_wp2_with (go_at_call 17; refine hlen.mono ?_; rintro e w' ⟨rfl, rfl⟩)
        refine hrd.mono ?_
        rintro e w5 ⟨rfl, hb5⟩
        have HA5 := Lib.hid (HA.out.below hb5)
        clear hb5 hrd
        go_wp2
        go_roundw
        case rel => exact ⟨j + 1, by omega, by go_num, HA5.out.below ((Below.refl _ _).alloc (Nat.le_refl _) _)⟩
        case measure => simp [RowKit.intOf]; omega
      · obtain rfl : j = 0 := by omega
        have hrd := hat.beyond_
        have HA := Lib.hid hat
        clear hat
        go_wp2_with (go_at_call 17; refine hlen.mono ?_; rintro e w' ⟨rfl, rfl⟩)
        refine hrd.mono ?_
        rintro e w5 ⟨rfl, hb5⟩
        have HA5 := Lib.hid (HA.out.below hb5)
        clear hb5 hrd
        go_wp2_with fail
        refine (alive_walk _).mono ?_
        rintro e w6 ⟨rfl, hb6⟩
        have hfin : Below w.heap.size w w6 := by
          obtain ⟨s, F, _, _, h3⟩ := HA5.out.below hb6
          exact H1.out.trans (h3.1.below H1.out.size (by simp))
        have HFIN := Lib.hid hfin
        clear hb6 hfin
        go_wp2
        go_ret
        exact ⟨rfl, HFIN.out⟩
  · by_cases hb2 : m < b
    · have hBb := HB.out
      rw [(HB.out.more hb1 hb2).1, (HB.out.more hb1 hb2).2] at hgr2
      have hbd : decide ((0 : Int) ≤ b) = true := by simp; omega
      have hbe : decide (b ≤ m) = false := by simp; omega
      refine hgr2.mono ?_
      rintro e w3 ⟨rfl, F3, hd3, hg3⟩
      have HAT : Hid (At w1 w.heap.size 0 m w3) := ⟨_, F3, hBb, hd3, HG.out.trans hg3⟩
      clear hd3 hg3 hgr2 hBb
      go_wp2_with fail
      go_loopw [12] (fun i wr => ∃ j : Nat, j ≤ 0 ∧ i = .int .i64 j ∧ At w1 w.heap.size 0 m wr) (fun i _ => 0 - (RowKit.intOf i).toNat)
      case atStart => exact ⟨0, Nat.zero_le _, rfl, HAT.out⟩
      case round =>
        clear HAT
        obtain ⟨j, hj, rfl, hat⟩ := hrel
        have hlen := hat.len_
        by_cases hlt : j < 0
        · have hrd := hat.read_ hlt
          have HA := Lib.hid hat
          have hlt' : (j : Int) < (0 : Int) := by omega
          have hmk := make_zeros
          have hcv := zeros_text
          clear hat
          go_wp2_with (go_at_call 17; refine hlen.mono ?_; rintro e w' ⟨rfl, rfl⟩)
          refine hrd.mono ?_
          rintro e w5 ⟨rfl, hb5⟩
          have HA5 := Lib.hid (HA.out.below hb5)
          clear hb5 hrd
          go_wp2
          go_roundw
          case rel => exact ⟨j + 1, by omega, by go_num, HA5.out.below ((Below.refl _ _).alloc (Nat.le_refl _) _)⟩
          case measure => simp [RowKit.intOf]; omega
        · obtain rfl : j = 0 := by omega
          have hrd := hat.beyond_
          have HA := Lib.hid hat
          clear hat
          go_wp2_with (go_at_call 17; refine hlen.mono ?_; rintro e w' ⟨rfl, rfl⟩)
          refine hrd.mono ?_
          rintro e w5 ⟨rfl, hb5⟩
          have HA5 := Lib.hid (HA.out.below hb5)
          clear hb5 hrd
          go_wp2_with fail
          refine (alive_walk _).mono ?_
          rintro e w6 ⟨rfl, hb6⟩
          have hfin : Below w.heap.size w w6 := by
            obtain ⟨s, F, _, _, h3⟩ := HA5.out.below hb6
            exact H1.out.trans (h3.1.below H1.out.size (by simp))
          have HFIN := Lib.hid hfin
          clear hb6 hfin
          go_wp2
          go_ret
          exact ⟨rfl, HFIN.out⟩
    · obtain ⟨k, rfl⟩ : ∃ k : Nat, b = k := ⟨b.toNat, by omega⟩
      have hkL : 0 ≤ k := by omega
      have hkm : (k : Int) ≤ m := by omega
      have hBb := HB.out.longer (k - 0)
      rw [show 0 + (k - 0) = k by omega] at hBb
      rw [(HB.out.grown hkL hkm).1, (HB.out.grown hkL hkm).2] at hgr2
      have hbd : decide ((0 : Int) ≤ (k : Int)) = true := decide_eq_true (by omega)
      have hbe : decide ((k : Int) ≤ m) = true := by simp; omega
      refine hgr2.mono ?_
      rintro e w3 ⟨rfl, F3, hd3, hg3⟩
      have HAT : Hid (At w1 w.heap.size k m w3) := ⟨_, F3, hBb, hd3, HG.out.trans hg3⟩
      clear hd3 hg3 hgr2 hBb
      go_wp2_with fail
      go_loopw [12] (fun i wr => ∃ j : Nat, j ≤ k ∧ i = .int .i64 j ∧ At w1 w.heap.size k m wr) (fun i _ => k - (RowKit.intOf i).toNat)
      case atStart => exact ⟨0, Nat.zero_le _, rfl, HAT.out⟩
      case round =>
        clear HAT
        obtain ⟨j, hj, rfl, hat⟩ := hrel
        have hlen := hat.len_
        by_cases hlt : j < k
        · have hrd := hat.read_ hlt
          have HA := Lib.hid hat
          have hlt' : (j : Int) < (k : Int) := by omega
          have hmk := make_zeros
          have hcv := zeros_text
          clear hat
          go_wp2_with (go_at_call 17; refine hlen.mono ?_; rintro e w' ⟨rfl, rfl⟩)
          refine hrd.mono ?_
          rintro e w5 ⟨rfl, hb5⟩
          have HA5 := Lib.hid (HA.out.below hb5)
          clear hb5 hrd
          go_wp2
          go_roundw
          case rel => exact ⟨j + 1, by omega, by go_num, HA5.out.below ((Below.refl _ _).alloc (Nat.le_refl _) _)⟩
          case measure => simp [RowKit.intOf]; omega
        · obtain rfl : j = k := by omega
          have hrd := hat.beyond_
          have HA := Lib.hid hat
          clear hat
          go_wp2_with (go_at_call 17; refine hlen.mono ?_; rintro e w' ⟨rfl, rfl⟩)
          refine hrd.mono ?_
          rintro e w5 ⟨rfl, hb5⟩
          have HA5 := Lib.hid (HA.out.below hb5)
          clear hb5 hrd
          go_wp2_with fail
          refine (alive_walk _).mono ?_
          rintro e w6 ⟨rfl, hb6⟩
          have hfin : Below w.heap.size w w6 := by
            obtain ⟨s, F, _, _, h3⟩ := HA5.out.below hb6
            exact H1.out.trans (h3.1.below H1.out.size (by simp))
          have HFIN := Lib.hid hfin
          clear hb6 hfin
          go_wp2
          go_ret
          exact ⟨rfl, HFIN.out⟩

set_option maxRecDepth 1000000 in
set_option maxHeartbeats 1600000 in
theorem walk_a_fits (w : World) (m a b : Int) (hm1 : 1 ≤ m) (hm2 : m ≤ 60) (L : Nat) (ha : a = L) (h : (L : Int) ≤ m) : Calls Try.prog 7 #[.int .i64 m, .int .i64 a, .int .i64 b] w fun e w' => e = .returned (.bool true) ∧ Below w.heap.size w w' := by
  subst ha
  have HE := Lib.hid ((newS_blank m).grown (n := L) (by omega) h)
  have hBL := (newS_blank m).longer (L - 0)
  rw [show 0 + (L - 0) = L by omega] at hBL
  have HB := Lib.hid hBL
  have hae : decide ((L : Int) ≤ m) = true := by simpa using h
  clear hBL
  go_enter Try.func7, Try.ntmps7
  go_wp2_with fail
  refine (new_ok m w (by omega) (by omega)).mono ?_
  rintro e w1 ⟨rfl, hd, hb1⟩
  have hgr := grow_any w.heap.size (newS m) _ (L : Int) w1 hd
  rw [HE.out.1, HE.out.2] at hgr
  have H1 := Lib.hid hb1
  clear hd hb1
  go_wp2_with fail
  refine hgr.mono ?_
  rintro e w2 ⟨rfl, F2, hd, hg2⟩
  have hlen := len_any w.heap.size _ F2 w2 hd
  rw [HB.out.len] at hlen
  have hgr2 := grow_any w.heap.size _ F2 b w2 hd
  have HG := Lib.hid hg2
  clear hd hg2 hgr
  go_wp2_with (go_at_call 17; refine hlen.mono ?_; rintro e w' ⟨rfl, rfl⟩)
  by_cases hb1 : b < (L : Int)
  · have hBb := HB.out
    rw [(HB.out.less hb1).1, (HB.out.less hb1).2] at hgr2
    have hbd : decide ((L : Int) ≤ b) = false := by simpa using hb1
    refine hgr2.mono ?_
    rintro e w3 ⟨rfl, F3, hd3, hg3⟩
    have HAT : Hid (At w1 w.heap.size L m w3) := ⟨_, F3, hBb, hd3, HG.out.trans hg3⟩
    clear hd3 hg3 hgr2 hBb
    go_wp2_with fail
    go_loopw [12] (fun i wr => ∃ j : Nat, j ≤ L ∧ i = .int .i64 j ∧ At w1 w.heap.size L m wr) (fun i _ => L - (RowKit.intOf i).toNat)
    case atStart => exact ⟨0, Nat.zero_le _, rfl, HAT.out⟩
    case round =>
      clear HAT
      obtain ⟨j, hj, rfl, hat⟩ := hrel
      have hlen := hat.len_
      by_cases hlt : j < L
      · have hrd := hat.read_ hlt
        have HA := Lib.hid hat
        have hlt' : (j : Int) < (L : Int) := by omega
        have hmk := make_zeros
        have hcv := zeros_text
        clear hat
        go_wp2_with (go_at_call 17; refine hlen.mono ?_; rintro e w' ⟨rfl, rfl⟩)
        refine hrd.mono ?_
        rintro e w5 ⟨rfl, hb5⟩
        have HA5 := Lib.hid (HA.out.below hb5)
        clear hb5 hrd
        go_wp2
        go_roundw
        case rel => exact ⟨j + 1, by omega, by go_num, HA5.out.below ((Below.refl _ _).alloc (Nat.le_refl _) _)⟩
        case measure => simp [RowKit.intOf]; omega
      · obtain rfl : j = L := by omega
        have hrd := hat.beyond_
        have HA := Lib.hid hat
        clear hat
        go_wp2_with (go_at_call 17; refine hlen.mono ?_; rintro e w' ⟨rfl, rfl⟩)
        refine hrd.mono ?_
        rintro e w5 ⟨rfl, hb5⟩
        have HA5 := Lib.hid (HA.out.below hb5)
        clear hb5 hrd
        go_wp2_with fail
        refine (alive_walk _).mono ?_
        rintro e w6 ⟨rfl, hb6⟩
        have hfin : Below w.heap.size w w6 := by
          obtain ⟨s, F, _, _, h3⟩ := HA5.out.below hb6
          exact H1.out.trans (h3.1.below H1.out.size (by simp))
        have HFIN := Lib.hid hfin
        clear hb6 hfin
        go_wp2
        go_ret
        exact ⟨rfl, HFIN.out⟩
  · by_cases hb2 : m < b
    · have hBb := HB.out
      rw [(HB.out.more hb1 hb2).1, (HB.out.more hb1 hb2).2] at hgr2
      have hbd : decide ((L : Int) ≤ b) = true := by simp; omega
      have hbe : decide (b ≤ m) = false := by simp; omega
      refine hgr2.mono ?_
      rintro e w3 ⟨rfl, F3, hd3, hg3⟩
      have HAT : Hid (At w1 w.heap.size L m w3) := ⟨_, F3, hBb, hd3, HG.out.trans hg3⟩
      clear hd3 hg3 hgr2 hBb
      go_wp2_with fail
      go_loopw [12] (fun i wr => ∃ j : Nat, j ≤ L ∧ i = .int .i64 j ∧ At w1 w.heap.size L m wr) (fun i _ => L - (RowKit.intOf i).toNat)
      case atStart => exact ⟨0, Nat.zero_le _, rfl, HAT.out⟩
      case round =>
        clear HAT
        obtain ⟨j, hj, rfl, hat⟩ := hrel
        have hlen := hat.len_
        by_cases hlt : j < L
        · have hrd := hat.read_ hlt
          have HA := Lib.hid hat
          have hlt' : (j : Int) < (L : Int) := by omega
          have hmk := make_zeros
          have hcv := zeros_text
          clear hat
          go_wp2_with (go_at_call 17; refine hlen.mono ?_; rintro e w' ⟨rfl, rfl⟩)
          refine hrd.mono ?_
          rintro e w5 ⟨rfl, hb5⟩
          have HA5 := Lib.hid (HA.out.below hb5)
          clear hb5 hrd
          go_wp2
          go_roundw
          case rel => exact ⟨j + 1, by omega, by go_num, HA5.out.below ((Below.refl _ _).alloc (Nat.le_refl _) _)⟩
          case measure => simp [RowKit.intOf]; omega
        · obtain rfl : j = L := by omega
          have hrd := hat.beyond_
          have HA := Lib.hid hat
          clear hat
          go_wp2_with (go_at_call 17; refine hlen.mono ?_; rintro e w' ⟨rfl, rfl⟩)
          refine hrd.mono ?_
          rintro e w5 ⟨rfl, hb5⟩
          have HA5 := Lib.hid (HA.out.below hb5)
          clear hb5 hrd
          go_wp2_with fail
          refine (alive_walk _).mono ?_
          rintro e w6 ⟨rfl, hb6⟩
          have hfin : Below w.heap.size w w6 := by
            obtain ⟨s, F, _, _, h3⟩ := HA5.out.below hb6
            exact H1.out.trans (h3.1.below H1.out.size (by simp))
          have HFIN := Lib.hid hfin
          clear hb6 hfin
          go_wp2
          go_ret
          exact ⟨rfl, HFIN.out⟩
    · obtain ⟨k, rfl⟩ : ∃ k : Nat, b = k := ⟨b.toNat, by omega⟩
      have hkL : L ≤ k := by omega
      have hkm : (k : Int) ≤ m := by omega
      have hBb := HB.out.longer (k - L)
      rw [show L + (k - L) = k by omega] at hBb
      rw [(HB.out.grown hkL hkm).1, (HB.out.grown hkL hkm).2] at hgr2
      have hbd : decide ((L : Int) ≤ (k : Int)) = true := decide_eq_true (by omega)
      have hbe : decide ((k : Int) ≤ m) = true := by simp; omega
      refine hgr2.mono ?_
      rintro e w3 ⟨rfl, F3, hd3, hg3⟩
      have HAT : Hid (At w1 w.heap.size k m w3) := ⟨_, F3, hBb, hd3, HG.out.trans hg3⟩
      clear hd3 hg3 hgr2 hBb
      go_wp2_with fail
      go_loopw [12] (fun i wr => ∃ j : Nat, j ≤ k ∧ i = .int .i64 j ∧ At w1 w.heap.size k m wr) (fun i _ => k - (RowKit.intOf i).toNat)
      case atStart => exact ⟨0, Nat.zero_le _, rfl, HAT.out⟩
      case round =>
        clear HAT
        obtain ⟨j, hj, rfl, hat⟩ := hrel
        have hlen := hat.len_
        by_cases hlt : j < k
        · have hrd := hat.read_ hlt
          have HA := Lib.hid hat
          have hlt' : (j : Int) < (k : Int) := by omega
          have hmk := make_zeros
          have hcv := zeros_text
          clear hat
          go_wp2_with (go_at_call 17; refine hlen.mono ?_; rintro e w' ⟨rfl, rfl⟩)
          refine hrd.mono ?_
          rintro e w5 ⟨rfl, hb5⟩
          have HA5 := Lib.hid (HA.out.below hb5)
          clear hb5 hrd
          go_wp2
          go_roundw
          case rel => exact ⟨j + 1, by omega, by go_num, HA5.out.below ((Below.refl _ _).alloc (Nat.le_refl _) _)⟩
          case measure => simp [RowKit.intOf]; omega
        · obtain rfl : j = k := by omega
          have hrd := hat.beyond_
          have HA := Lib.hid hat
          clear hat
          go_wp2_with (go_at_call 17; refine hlen.mono ?_; rintro e w' ⟨rfl, rfl⟩)
          refine hrd.mono ?_
          rintro e w5 ⟨rfl, hb5⟩
          have HA5 := Lib.hid (HA.out.below hb5)
          clear hb5 hrd
          go_wp2_with fail
          refine (alive_walk _).mono ?_
          rintro e w6 ⟨rfl, hb6⟩
          have hfin : Below w.heap.size w w6 := by
            obtain ⟨s, F, _, _, h3⟩ := HA5.out.below hb6
            exact H1.out.trans (h3.1.below H1.out.size (by simp))
          have HFIN := Lib.hid hfin
          clear hb6 hfin
          go_wp2
          go_ret
          exact ⟨rfl, HFIN.out⟩

theorem walk (w : World) (m : Int) (_hm : IsInt m) (a : Int) (_ha : IsInt a) (b : Int) (_hb : IsInt b) : Calls Try.prog 7 #[.int .i64 m, .int .i64 a, .int .i64 b] w fun e w' => e = .returned (.bool true) ∧ Below w.heap.size w w' := by
  by_cases h1 : m < 1 ∨ 3000 < m
  · exact walk_bad w m a b h1
  · by_cases h2 : 60 < m
    · exact walk_wide w m a b h2 (by omega)
    · by_cases h3 : a < 0
      · exact walk_a_less w m a b (by omega) (by omega) h3
      · by_cases h4 : m < a
        · exact walk_a_more w m a b (by omega) (by omega) (by omega) h4
        · exact walk_a_fits w m a b (by omega) (by omega) a.toNat (by omega) (by omega)

set_option maxRecDepth 100000 in
theorem lifted (os : Os) (started : os.Started) (H : Type) (enc : TypeId × Value → H) :
    ReturnsInHanded {} Try.checked os 7 .any (Rows.devGrowsSpec.pre6 enc Try.prog Try.f7 Rows.devGrowsRow.domain false) (Rows.devGrowsSpec.post enc Try.prog Try.f7 false true false false) := by
  refine returnsInHanded_of_change (C := Try.checked) own started (by kernel_rfl) Try.func7
    (ChangeSpec.witness6 (enc := enc) (C := Try.checked) false ⟨#[], #[.int .i64 0, .int .i64 0, .int .i64 0], []⟩ 8 (by kernel_rfl) (by kernel_rfl) (by kernel_rfl) (by kernel_rfl)) ?_
  intro W base args ds gs before hval0 hW hcnd _
  have hval : ∀ (j : Nat) t v, Try.f7.params[j]? = some t → args[j]? = some v → Value.okWide Try.prog W .any base t v := hval0
  have hW' := hW
  obtain ⟨p, q, hA0, hV, rfl, hfz, hnd⟩ := hW
  have hA : DataW.TrodAll enc Try.prog W 0 (fun _ => true) true Try.f7.params.toList args.toList ds p := hA0
  rw [Try.params7] at hA hval
  obtain ⟨v0, vs0, d0, ds0, p0, q0, hargs, rfl, rfl, h0, r00⟩ := trodAll_cons hA
  obtain ⟨v1, vs1, d1, ds1, p1, q1, rfl, rfl, rfl, h1, r01⟩ := trodAll_cons r00
  obtain ⟨v2, vs2, d2, ds2, p2, q2, rfl, rfl, rfl, h2, r02⟩ := trodAll_cons r01
  obtain ⟨rfl, rfl, rfl⟩ := trodAll_nil r02
  obtain rfl : args = #[v0, v1, v2] := by cases args; simp_all
  obtain ⟨rfl, rfl⟩ := trodVars_none hV
  obtain ⟨n0, rfl, rfl, rfl, w0⟩ := open_int Try.underlying3 (hval 0 3 v0 rfl rfl) h0
  obtain ⟨n1, rfl, rfl, rfl, w1⟩ := open_int Try.underlying3 (hval 1 3 v1 rfl rfl) h1
  obtain ⟨n2, rfl, rfl, rfl, w2⟩ := open_int Try.underlying3 (hval 2 3 v2 rfl rfl) h2
  clear hA0 hval0
  refine (walk W n0 (isInt_of_wf w0) n1 (isInt_of_wf w1) n2 (isInt_of_wf w2)).mono fun e W' ⟨he, hb⟩ => ?_
  subst he
  exact ⟨_, rfl, law_post hW' rfl rfl (by kernel_rfl) (by kernel_rfl) hb⟩

theorem said : Rows.DevGrowsSaid :=
  OpenClaim.holds_of_wide 7 Try.f7 rfl rfl rfl rfl rfl rfl rfl ⟨rfl, rfl, rfl, rfl, rfl⟩ rfl rfl rfl rfl rfl (by kernel_rfl) Try.func7 (by kernel_rfl)
    (of_decide_eq_true (by kernel_rfl)) (by unfold Func.isWrapper; first | (rw [if_pos (by decide +kernel)]; kernel_rfl) | (rw [if_neg (by decide +kernel)]; exact ⟨rfl, rfl⟩))
    (fun os started H enc _ => lifted os started H enc)

end Go.Proofs.Ytlmhhoijbebcbaa.devGrows
