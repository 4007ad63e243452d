/-
  Walks over the document's own answers to chapter 4: Open.
-/
import Derived.Test.YthcpjpebahiikaaDoorMg19
namespace Go.Proofs.YthcpjpebahiikaaDoor
open Go.RowKit Go.Lib

theorem rfield_at (s : ByteArray) (x : Nat) (i n : Int) (a k : Nat) (w : World) (hi : i = a) (hn : n = k) (h1 : 1 ≤ k) (h7 : k ≤ 7) (hs : s.size = 256) (h : a + k ≤ 256) (hx : fld s.data.toList a k = x) :
    Calls Tryd.prog 28 #[.string s, .int .i64 i, .int .i64 n] w fun e w' => e = .returned (.tuple #[.int .i64 x, .int .i64 0]) ∧ w = w' := by
  subst hi hn hx
  exact refUnfix_ok s a k w h1 h7 (by omega) (by omega)

theorem sum_cmp (b : ByteArray) (y : Nat) (h : b.size = 256) (hy : y < 4294967296) : ((⟨(leb 4 y).toArray⟩ : ByteArray).toList == (b.extract 252 256).toList) = decide (fld b.data.toList 252 4 = y) := by
  have hl : b.data.toList.length = 256 := by rw [← h]; simp
  have e1 : (⟨(leb 4 y).toArray⟩ : ByteArray).toList = leb 4 y := by rw [ByteArray.toList_eq]
  have e2 : (b.extract 252 256).toList = (b.data.toList.drop 252).take 4 := by rw [ByteArray.toList_eq, ByteArray.data_extract, Array.toList_extract, List.extract_eq_take_drop]
  rw [e1, e2, Bool.eq_iff_iff, beq_iff_eq, decide_eq_true_iff]
  constructor
  · intro e
    show unleb _ = y
    rw [← e]
    exact unleb_leb 4 y hy
  · intro e
    refine unleb_inj (by rw [leb_length]; simp; omega) ?_
    rw [unleb_leb 4 y hy]
    exact e.symm

set_option maxRecDepth 100000 in
set_option maxHeartbeats 400000 in
theorem ropen_short (id : Int) (b : ByteArray) (w : World) (h : b.size ≠ 256) :
    Calls Tryd.prog 27 #[.int .i64 id, .string b] w fun e w' => e = .returned (.tuple #[.agg #[.int .i64 0, .int .i64 0, .string ⟨#[]⟩], .int .i64 5]) ∧ Below w.heap.size w w' := by
  have e1 : ((b.size : Int) == 256) = false := beq_eq_false_iff_ne.2 (by omega)
  have e2 : ((b.size : Int) != 256) = true := by simp; omega
  go_enter Tryd.func27, Tryd.ntmps27
  go_wp2
  exact bodyPost_ret (v := .tuple #[.agg #[.int .i64 0, .int .i64 0, .string ⟨#[]⟩], .int .i64 5]) (by simp [results, Tryd.results27, go_sem]) rfl ⟨rfl, (Below.refl _ _).alloc (Nat.le_refl _) _⟩

set_option maxRecDepth 100000 in
set_option maxHeartbeats 400000 in
theorem ropen_sum (id : Int) (b : ByteArray) (w : World) (h : b.size = 256) (hne : fld b.data.toList 252 4 ≠ crcB (b.extract 0 252).data.toList) :
    Calls Tryd.prog 27 #[.int .i64 id, .string b] w fun e w' => e = .returned (.tuple #[.agg #[.int .i64 0, .int .i64 0, .string ⟨#[]⟩], .int .i64 6]) ∧ Below w.heap.size w w' := by
  have hc := fun w => refCrc_any (b.extract 0 252) w (by simp; omega)
  have hlt := crcB_lt (b.extract 0 252).data.toList
  generalize crcB (b.extract 0 252).data.toList = y at *
  have hcmp := sum_cmp b y h hlt
  rw [decide_eq_false hne] at hcmp
  obtain ⟨C, hC⟩ : ∃ K : ByteArray, (⟨(leb 4 y).toArray⟩ : ByteArray) = K := ⟨_, rfl⟩
  have hf := fun w => reffix_fit y 4 4 w C rfl (by omega) (by omega) (by omega) (by omega) hC
  rw [hC] at hcmp
  have hs : (b.size : Int) = 256 := by omega
  have HF := Lib.hid hf
  have HC := Lib.hid hc
  clear hf hc hne hC
  go_enter Tryd.func27, Tryd.ntmps27
  go_wp2_with fail
  go_region_held3 (fun _ => True) (trivial) (first | (go_at_call 41; ((with_reducible refine (HC.out _).mono ?_)); rintro e w2 ⟨rfl, rfl⟩) | (go_at_call 40; ((with_reducible refine (HF.out _).mono ?_)); rintro e w3 ⟨rfl, hb3⟩))
  have q0 : w3.cell? ⟨w.heap.size, 0, none⟩ = some (.int .i64 0) := (hb3.cell (by simp)).trans (by go_simp)
  have q1 : w3.cell? ⟨w.heap.size, 1, none⟩ = some (.int .i64 0) := (hb3.cell (by simp)).trans (by go_simp)
  have q2 : w3.cell? ⟨w.heap.size, 2, none⟩ = some (.string ⟨#[]⟩) := (hb3.cell (by simp)).trans (by go_simp)
  have f0 : w3.frozen? ⟨w.heap.size, 0, none⟩ = false := (hb3.frozen (by simp)).trans (by go_simp)
  have f1 : w3.frozen? ⟨w.heap.size, 1, none⟩ = false := (hb3.frozen (by simp)).trans (by go_simp)
  have f2 : w3.frozen? ⟨w.heap.size, 2, none⟩ = false := (hb3.frozen (by simp)).trans (by go_simp)
  go_wp2_with fail
  refine bodyPost_ret (v := .tuple #[.agg #[.int .i64 0, .int .i64 0, .string ⟨#[]⟩], .int .i64 6]) (by simp [results, Tryd.results27, go_sem, q0, q1, q2]) rfl ⟨rfl, ?_⟩
  refine Below.setCell (Below.setCell (Below.setCell (Below.trans ?_ (hb3.mono (by simp))) (by simp) _) (by simp) _) (by simp) _
  repeat first | exact Below.refl _ _ | refine Below.alloc ?_ (by simp) _ | refine Below.drew ?_

set_option maxRecDepth 100000 in
set_option maxHeartbeats 1000000 in
theorem ropen_form (id : Int) (b : ByteArray) (w : World) (kind own next n : Nat) (h : b.size = 256) (hF : fld b.data.toList 0 1 = kind ∧ fld b.data.toList 1 4 = own ∧ fld b.data.toList 5 4 = next ∧ fld b.data.toList 9 2 = n) (hsum : fld b.data.toList 252 4 = crcB (b.extract 0 252).data.toList)
    (hbad : ((own : Int) != id) = true ∨ ((own : Int) != id) = false ∧ ((kind : Int) == 0) = true ∨ ((own : Int) != id) = false ∧ ((kind : Int) == 0) = false ∧ 240 < n) :
    Calls Tryd.prog 27 #[.int .i64 id, .string b] w fun e w' => e = .returned (.tuple #[.agg #[.int .i64 0, .int .i64 0, .string ⟨#[]⟩], .int .i64 4]) ∧ Below w.heap.size w w' := by
  have hk := fun w => rfield_at b _ 0 1 0 1 w rfl rfl (by omega) (by omega) h (by omega) hF.1
  have ho := fun w => rfield_at b _ 1 4 1 4 w rfl rfl (by omega) (by omega) h (by omega) hF.2.1
  have hx := fun w => rfield_at b _ 5 4 5 4 w rfl rfl (by omega) (by omega) h (by omega) hF.2.2.1
  have hn := fun w => rfield_at b _ 9 2 9 2 w rfl rfl (by omega) (by omega) h (by omega) hF.2.2.2
  have hc := fun w => refCrc_any (b.extract 0 252) w (by simp; omega)
  have hlt := crcB_lt (b.extract 0 252).data.toList
  generalize crcB (b.extract 0 252).data.toList = y at *
  have hcmp := sum_cmp b y h hlt
  rw [decide_eq_true hsum] at hcmp
  obtain ⟨C, hC⟩ : ∃ K : ByteArray, (⟨(leb 4 y).toArray⟩ : ByteArray) = K := ⟨_, rfl⟩
  have hf := fun w => reffix_fit y 4 4 w C rfl (by omega) (by omega) (by omega) (by omega) hC
  rw [hC] at hcmp
  have hs : (b.size : Int) = 256 := by omega
  have HF := Lib.hid hf
  have HC := Lib.hid hc
  have HK := Lib.hid hk
  have HO := Lib.hid ho
  have HX := Lib.hid hx
  have HN := Lib.hid hn
  clear hf hc hC hk ho hx hn hF hsum
  rcases hbad with hm | ⟨hm, h1⟩ | ⟨hm, h1, h2⟩
  all_goals
    go_enter Tryd.func27, Tryd.ntmps27
    go_wp2_with fail
    go_region_held3 (fun _ => True) (trivial) (first | (go_at_call 41; ((with_reducible refine (HC.out _).mono ?_)); rintro e w2 ⟨rfl, rfl⟩) | (go_at_call 40; ((with_reducible refine (HF.out _).mono ?_)); rintro e w3 ⟨rfl, hb3⟩))
    have q0 : w3.cell? ⟨w.heap.size, 0, none⟩ = some (.int .i64 0) := (hb3.cell (by simp)).trans (by go_simp)
    have q1 : w3.cell? ⟨w.heap.size, 1, none⟩ = some (.int .i64 0) := (hb3.cell (by simp)).trans (by go_simp)
    have q2 : w3.cell? ⟨w.heap.size, 2, none⟩ = some (.string ⟨#[]⟩) := (hb3.cell (by simp)).trans (by go_simp)
    have f0 : w3.frozen? ⟨w.heap.size, 0, none⟩ = false := (hb3.frozen (by simp)).trans (by go_simp)
    have f1 : w3.frozen? ⟨w.heap.size, 1, none⟩ = false := (hb3.frozen (by simp)).trans (by go_simp)
    have f2 : w3.frozen? ⟨w.heap.size, 2, none⟩ = false := (hb3.frozen (by simp)).trans (by go_simp)
    have hB3 : Below w.heap.size w w3 := by
      refine Below.trans ?_ (hb3.mono (by simp))
      repeat first | exact Below.refl _ _ | refine Below.alloc ?_ (by simp) _ | refine Below.drew ?_
    have HB3 := Lib.hid hB3
    clear hb3 hB3
    go_wp2_with (go_at_call 28; first | ((with_reducible refine (HK.out _).mono ?_); rintro e w2 ⟨rfl, rfl⟩) | ((with_reducible refine (HO.out _).mono ?_); rintro e w2 ⟨rfl, rfl⟩) | ((with_reducible refine (HN.out _).mono ?_); rintro e w2 ⟨rfl, rfl⟩) | ((with_reducible refine (HX.out _).mono ?_); rintro e w2 ⟨rfl, rfl⟩))
    refine bodyPost_ret (v := .tuple #[.agg #[.int .i64 0, .int .i64 0, .string ⟨#[]⟩], .int .i64 4]) (by simp [results, Tryd.results27, go_sem, q0, q1, q2]) rfl ⟨rfl, ?_⟩
    exact Below.setCell (Below.setCell (Below.setCell HB3.out (by simp) _) (by simp) _) (by simp) _

set_option maxRecDepth 100000 in
set_option maxHeartbeats 1000000 in
theorem ropen_zero (id : Int) (b : ByteArray) (w : World) (kind own next n : Nat) (h : b.size = 256) (hF : fld b.data.toList 0 1 = kind ∧ fld b.data.toList 1 4 = own ∧ fld b.data.toList 5 4 = next ∧ fld b.data.toList 9 2 = n) (hsum : fld b.data.toList 252 4 = crcB (b.extract 0 252).data.toList)
    (hm : ((own : Int) != id) = false) (h1 : ((kind : Int) == 0) = false) (h2 : n ≤ 240) (hz : ∀ (j : Nat) (hj : j < b.size), 11 + n ≤ j → j < 252 → b[j] = 0) :
    Calls Tryd.prog 27 #[.int .i64 id, .string b] w fun e w' => e = .returned (.tuple #[.agg #[.int .i64 kind, .int .i64 next, .string (b.extract 11 (11 + n))], .int .i64 0]) ∧ Below w.heap.size w w' := by
  have hk := fun w => rfield_at b _ 0 1 0 1 w rfl rfl (by omega) (by omega) h (by omega) hF.1
  have ho := fun w => rfield_at b _ 1 4 1 4 w rfl rfl (by omega) (by omega) h (by omega) hF.2.1
  have hx := fun w => rfield_at b _ 5 4 5 4 w rfl rfl (by omega) (by omega) h (by omega) hF.2.2.1
  have hn := fun w => rfield_at b _ 9 2 9 2 w rfl rfl (by omega) (by omega) h (by omega) hF.2.2.2
  have hc := fun w => refCrc_any (b.extract 0 252) w (by simp; omega)
  have hlt := crcB_lt (b.extract 0 252).data.toList
  generalize crcB (b.extract 0 252).data.toList = y at *
  have hcmp := sum_cmp b y h hlt
  rw [decide_eq_true hsum] at hcmp
  obtain ⟨C, hC⟩ : ∃ K : ByteArray, (⟨(leb 4 y).toArray⟩ : ByteArray) = K := ⟨_, rfl⟩
  have hf := fun w => reffix_fit y 4 4 w C rfl (by omega) (by omega) (by omega) (by omega) hC
  rw [hC] at hcmp
  have hs : (b.size : Int) = 256 := by omega
  have HF := Lib.hid hf
  have HC := Lib.hid hc
  have HK := Lib.hid hk
  have HO := Lib.hid ho
  have HX := Lib.hid hx
  have HN := Lib.hid hn
  clear hf hc hC hk ho hx hn hF hsum
  have HZ := Lib.hid hz
  clear hz
  go_enter Tryd.func27, Tryd.ntmps27
  go_wp2_with fail
  go_region_held3 (fun _ => True) (trivial) (first | (go_at_call 41; ((with_reducible refine (HC.out _).mono ?_)); rintro e w2 ⟨rfl, rfl⟩) | (go_at_call 40; ((with_reducible refine (HF.out _).mono ?_)); rintro e w3 ⟨rfl, hb3⟩))
  have q0 : w3.cell? ⟨w.heap.size, 0, none⟩ = some (.int .i64 0) := (hb3.cell (by simp)).trans (by go_simp)
  have q1 : w3.cell? ⟨w.heap.size, 1, none⟩ = some (.int .i64 0) := (hb3.cell (by simp)).trans (by go_simp)
  have q2 : w3.cell? ⟨w.heap.size, 2, none⟩ = some (.string ⟨#[]⟩) := (hb3.cell (by simp)).trans (by go_simp)
  have f0 : w3.frozen? ⟨w.heap.size, 0, none⟩ = false := (hb3.frozen (by simp)).trans (by go_simp)
  have f1 : w3.frozen? ⟨w.heap.size, 1, none⟩ = false := (hb3.frozen (by simp)).trans (by go_simp)
  have f2 : w3.frozen? ⟨w.heap.size, 2, none⟩ = false := (hb3.frozen (by simp)).trans (by go_simp)
  have hB3 : Below w.heap.size w w3 := by
    refine Below.trans ?_ (hb3.mono (by simp))
    repeat first | exact Below.refl _ _ | refine Below.alloc ?_ (by simp) _ | refine Below.drew ?_
  have HB3 := Lib.hid hB3
  clear hb3 hB3
  go_wp2_with (go_at_call 28; first | ((with_reducible refine (HK.out _).mono ?_); rintro e w2 ⟨rfl, rfl⟩) | ((with_reducible refine (HO.out _).mono ?_); rintro e w2 ⟨rfl, rfl⟩) | ((with_reducible refine (HN.out _).mono ?_); rintro e w2 ⟨rfl, rfl⟩) | ((with_reducible refine (HX.out _).mono ?_); rintro e w2 ⟨rfl, rfl⟩))
  go_loop [14] (fun i => ∃ k : Nat, 11 + n ≤ k ∧ k ≤ 252 ∧ i = .int .i64 k ∧ Hid (∀ (j : Nat) (hj : j < b.size), 11 + n ≤ j → j < k → b[j] = 0)) (fun i => 252 - (RowKit.intOf i).toNat)
  case atStart => exact ⟨11 + n, Nat.le_refl _, by omega, by go_num, fun j _ ha hb => absurd hb (by omega)⟩
  case round =>
    obtain ⟨k, hk1, hk2, rfl, HA⟩ := hrel
    by_cases hlt : k < 252
    · have hkb : k < b.size := by omega
      have hz : b[k] = 0 := HZ.out k hkb hk1 hlt
      have e1 : ((b[k].toNat : Int) != 0) = false := by rw [hz]; rfl
      have HZK := Lib.hid hz
      clear hz
      go_wp2_with fail
      go_round
      case rel => exact ⟨k + 1, by omega, by omega, by go_num, fun j hj ha hb => by
        by_cases e : j = k
        · subst e; exact HZK.out
        · exact HA.out j hj ha (by omega)⟩
      case measure => simp [RowKit.intOf]; omega
    · go_wp2_with fail
      have s0 := World.cell?_setCell_same w3 ⟨w.heap.size, 0, none⟩ (.int .i64 kind) q0
      have s1 := World.cell?_setCell_same (w3.setCell ⟨w.heap.size, 0, none⟩ (.int .i64 kind)) ⟨w.heap.size, 1, none⟩ (.int .i64 next) (show _ = some (.int .i64 0) by rw [World.cell?_setCell_other _ _ _ _ (by simp)]; exact q1)
      have s2 := World.cell?_setCell_same ((w3.setCell ⟨w.heap.size, 0, none⟩ (.int .i64 kind)).setCell ⟨w.heap.size, 1, none⟩ (.int .i64 next)) ⟨w.heap.size, 2, none⟩ (.string (b.extract 11 (11 + n))) (show _ = some (.string ⟨#[]⟩) by rw [World.cell?_setCell_other _ _ _ _ (by simp), World.cell?_setCell_other _ _ _ _ (by simp)]; exact q2)
      refine bodyPost_ret (v := .tuple #[.agg #[.int .i64 kind, .int .i64 next, .string (b.extract 11 (11 + n))], .int .i64 0]) (by simp [results, Tryd.results27, go_sem, s0, s1, s2]) rfl ⟨rfl, ?_⟩
      exact Below.setCell (Below.setCell (Below.setCell HB3.out (by simp) _) (by simp) _) (by simp) _

set_option maxRecDepth 100000 in
set_option maxHeartbeats 1000000 in
theorem ropen_tail (id : Int) (b : ByteArray) (w : World) (kind own next n : Nat) (h : b.size = 256) (hF : fld b.data.toList 0 1 = kind ∧ fld b.data.toList 1 4 = own ∧ fld b.data.toList 5 4 = next ∧ fld b.data.toList 9 2 = n) (hsum : fld b.data.toList 252 4 = crcB (b.extract 0 252).data.toList)
    (hm : ((own : Int) != id) = false) (h1 : ((kind : Int) == 0) = false) (h2 : n ≤ 240) (j0 : Nat) (hj0 : j0 < b.size) (ha0 : 11 + n ≤ j0) (hb0 : j0 < 252) (hz : ¬ b[j0] = 0) :
    Calls Tryd.prog 27 #[.int .i64 id, .string b] w fun e w' => e = .returned (.tuple #[.agg #[.int .i64 0, .int .i64 0, .string ⟨#[]⟩], .int .i64 4]) ∧ Below w.heap.size w w' := by
  have hk := fun w => rfield_at b _ 0 1 0 1 w rfl rfl (by omega) (by omega) h (by omega) hF.1
  have ho := fun w => rfield_at b _ 1 4 1 4 w rfl rfl (by omega) (by omega) h (by omega) hF.2.1
  have hx := fun w => rfield_at b _ 5 4 5 4 w rfl rfl (by omega) (by omega) h (by omega) hF.2.2.1
  have hn := fun w => rfield_at b _ 9 2 9 2 w rfl rfl (by omega) (by omega) h (by omega) hF.2.2.2
  have hc := fun w => refCrc_any (b.extract 0 252) w (by simp; omega)
  have hlt := crcB_lt (b.extract 0 252).data.toList
  generalize crcB (b.extract 0 252).data.toList = y at *
  have hcmp := sum_cmp b y h hlt
  rw [decide_eq_true hsum] at hcmp
  obtain ⟨C, hC⟩ : ∃ K : ByteArray, (⟨(leb 4 y).toArray⟩ : ByteArray) = K := ⟨_, rfl⟩
  have hf := fun w => reffix_fit y 4 4 w C rfl (by omega) (by omega) (by omega) (by omega) hC
  rw [hC] at hcmp
  have hs : (b.size : Int) = 256 := by omega
  have HF := Lib.hid hf
  have HC := Lib.hid hc
  have HK := Lib.hid hk
  have HO := Lib.hid ho
  have HX := Lib.hid hx
  have HN := Lib.hid hn
  clear hf hc hC hk ho hx hn hF hsum
  have HZ := Lib.hid (show ¬ b[j0] = 0 from hz)
  clear hz
  go_enter Tryd.func27, Tryd.ntmps27
  go_wp2_with fail
  go_region_held3 (fun _ => True) (trivial) (first | (go_at_call 41; ((with_reducible refine (HC.out _).mono ?_)); rintro e w2 ⟨rfl, rfl⟩) | (go_at_call 40; ((with_reducible refine (HF.out _).mono ?_)); rintro e w3 ⟨rfl, hb3⟩))
  have q0 : w3.cell? ⟨w.heap.size, 0, none⟩ = some (.int .i64 0) := (hb3.cell (by simp)).trans (by go_simp)
  have q1 : w3.cell? ⟨w.heap.size, 1, none⟩ = some (.int .i64 0) := (hb3.cell (by simp)).trans (by go_simp)
  have q2 : w3.cell? ⟨w.heap.size, 2, none⟩ = some (.string ⟨#[]⟩) := (hb3.cell (by simp)).trans (by go_simp)
  have f0 : w3.frozen? ⟨w.heap.size, 0, none⟩ = false := (hb3.frozen (by simp)).trans (by go_simp)
  have f1 : w3.frozen? ⟨w.heap.size, 1, none⟩ = false := (hb3.frozen (by simp)).trans (by go_simp)
  have f2 : w3.frozen? ⟨w.heap.size, 2, none⟩ = false := (hb3.frozen (by simp)).trans (by go_simp)
  have hB3 : Below w.heap.size w w3 := by
    refine Below.trans ?_ (hb3.mono (by simp))
    repeat first | exact Below.refl _ _ | refine Below.alloc ?_ (by simp) _ | refine Below.drew ?_
  have HB3 := Lib.hid hB3
  clear hb3 hB3
  go_wp2_with (go_at_call 28; first | ((with_reducible refine (HK.out _).mono ?_); rintro e w2 ⟨rfl, rfl⟩) | ((with_reducible refine (HO.out _).mono ?_); rintro e w2 ⟨rfl, rfl⟩) | ((with_reducible refine (HN.out _).mono ?_); rintro e w2 ⟨rfl, rfl⟩) | ((with_reducible refine (HX.out _).mono ?_); rintro e w2 ⟨rfl, rfl⟩))
  go_loop [14] (fun i => ∃ k : Nat, 11 + n ≤ k ∧ k ≤ 252 ∧ i = .int .i64 k ∧ Hid (∀ (j : Nat) (hj : j < b.size), 11 + n ≤ j → j < k → b[j] = 0)) (fun i => 252 - (RowKit.intOf i).toNat)
  case atStart => exact ⟨11 + n, Nat.le_refl _, by omega, by go_num, fun j _ ha hb => absurd hb (by omega)⟩
  case round =>
    obtain ⟨k, hk1, hk2, rfl, HA⟩ := hrel
    by_cases hlt : k < 252
    · have hkb : k < b.size := by omega
      by_cases hz : b[k] = 0
      · have e1 : ((b[k].toNat : Int) != 0) = false := by rw [hz]; rfl
        have HZK := Lib.hid hz
        clear hz
        go_wp2_with fail
        go_round
        case rel => exact ⟨k + 1, by omega, by omega, by go_num, fun j hj ha hb => by
          by_cases e : j = k
          · subst e; exact HZK.out
          · exact HA.out j hj ha (by omega)⟩
        case measure => simp [RowKit.intOf]; omega
      · have e1 : ((b[k].toNat : Int) != 0) = true := by
          simp
          exact fun e => hz (UInt8.toNat_inj.1 (by simpa using e))
        clear hz
        go_wp2_with fail
        refine bodyPost_ret (v := .tuple #[.agg #[.int .i64 0, .int .i64 0, .string ⟨#[]⟩], .int .i64 4]) (by simp [results, Tryd.results27, go_sem, q0, q1, q2]) rfl ⟨rfl, ?_⟩
        exact Below.setCell (Below.setCell (Below.setCell HB3.out (by simp) _) (by simp) _) (by simp) _
    · exact absurd (HA.out j0 hj0 ha0 (by omega)) HZ.out

/-- The document's own Open, of any number and any bytes. -/
theorem refOpen_any (id : Int) (b : ByteArray) (w : World) (hid : IsInt id) : Calls Tryd.prog 27 #[.int .i64 id, .string b] w fun e w' => e = .returned (openV id b.data.toList) ∧ Below w.heap.size w w' := by
  have hl : b.data.toList.length = b.size := by simp
  by_cases h : b.size = 256
  · have hx : (b.extract 0 252).data.toList = b.data.toList.take 252 := by simp
    by_cases h1 : fld b.data.toList 252 4 = crcB (b.data.toList.take 252)
    · have h1' : fld b.data.toList 252 4 = crcB (b.extract 0 252).data.toList := by rw [hx]; exact h1
      by_cases h2 : (fld b.data.toList 1 4 : Int) ≠ id ∨ fld b.data.toList 0 1 = 0 ∨ 240 < fld b.data.toList 9 2
      · rw [openV_bad (open_form (hl.trans h) h1 h2) (by decide)]
        refine ropen_form id b w _ _ _ _ h ⟨rfl, rfl, rfl, rfl⟩ h1' ?_
        by_cases a : (fld b.data.toList 1 4 : Int) = id
        · refine .inr ?_
          by_cases c : fld b.data.toList 0 1 = 0
          · exact .inl ⟨by simpa using a, by simpa using c⟩
          · exact .inr ⟨by simpa using a, by simpa using c, by omega⟩
        · exact .inl (by simpa using a)
      · have a : (fld b.data.toList 1 4 : Int) = id := by omega
        have c : ¬ fld b.data.toList 0 1 = 0 := by omega
        have d : fld b.data.toList 9 2 ≤ 240 := by omega
        have hz : zeroB (tailB b.data.toList) = true ↔ ∀ (j : Nat) (hj : j < b.size), 11 + fld b.data.toList 9 2 ≤ j → j < 252 → b[j] = 0 := by
          rw [zeroB, List.all_eq_true]
          constructor
          · intro g j hj ha hb
            have hm : b[j] ∈ tailB b.data.toList := by
              rw [tailB, List.mem_iff_getElem?]
              refine ⟨j - (11 + fld b.data.toList 9 2), ?_⟩
              rw [List.getElem?_drop, List.getElem?_take, if_pos (by omega), show 11 + fld b.data.toList 9 2 + (j - (11 + fld b.data.toList 9 2)) = j by omega, List.getElem?_eq_getElem (by simpa using hj)]
              rfl
            simpa using g _ hm
          · intro g x hx
            rw [tailB, List.mem_iff_getElem?] at hx
            obtain ⟨i, hi⟩ := hx
            rw [List.getElem?_drop, List.getElem?_take] at hi
            split at hi
            · rename_i hlt
              rw [List.getElem?_eq_getElem (by rw [hl]; omega)] at hi
              have := g (11 + fld b.data.toList 9 2 + i) (by omega) (by omega) hlt
              have e : x = b[11 + fld b.data.toList 9 2 + i]'(by omega) := (Option.some.inj hi).symm
              rw [e, this]
              rfl
            · cases hi
        cases h3 : zeroB (tailB b.data.toList)
        · rw [openV_bad (open_tail (hl.trans h) h1 h2 h3) (by decide)]
          have hn : ∃ (j : Nat) (hj : j < b.size), 11 + fld b.data.toList 9 2 ≤ j ∧ j < 252 ∧ ¬ b[j] = 0 := by
            refine Classical.byContradiction fun hc => ?_
            rw [hz.2 (fun j hj ha hb => Classical.byContradiction fun e => hc ⟨j, hj, ha, hb, e⟩)] at h3
            cases h3
          obtain ⟨j, hj, ha, hb, hne⟩ := hn
          exact ropen_tail id b w _ _ _ _ h ⟨rfl, rfl, rfl, rfl⟩ h1' (by simpa using a) (by simpa using c) d j hj ha hb hne
        · rw [openV_ok (open_ok (hl.trans h) h1 h2 h3)]
          have e : (⟨((b.data.toList.drop 11).take (fld b.data.toList 9 2)).toArray⟩ : ByteArray) = b.extract 11 (11 + fld b.data.toList 9 2) := by
            apply ByteArray.ext
            apply Array.ext'
            rw [ByteArray.data_extract, Array.toList_extract, List.extract_eq_take_drop]
            simp
          rw [e]
          exact ropen_zero id b w _ _ _ _ h ⟨rfl, rfl, rfl, rfl⟩ h1' (by simpa using a) (by simpa using c) d (hz.1 h3)
    · rw [openV_bad (open_sum (hl.trans h) h1) (by decide)]
      exact ropen_sum id b w h (by rw [hx]; exact h1)
  · rw [openV_bad (open_short (by rw [hl]; exact h)) (by decide)]
    exact ropen_short id b w h
end Go.Proofs.YthcpjpebahiikaaDoor
