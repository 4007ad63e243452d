/-
  Walks over package page: Open. A pager's calls that only look at it: none, Own, Pages, Read.
-/
import Derived.Test.YtmcfldcpmjdfbaaGreatDoorMg17
import Derived.Test.YtmcfldcpmjdfbaaGreatDoorMg15
namespace Go.Proofs.YtmcfldcpmjdfbaaGreatDoor
open Go.RowKit Go.Lib

set_option maxRecDepth 100000 in
set_option maxHeartbeats 400000 in
theorem popen_short (id : Int) (b : ByteArray) (w : World) (h : b.size ≠ 256) :
    Calls Tryz.prog 39 #[.int .i64 id, .string b] w fun e w' => e = .returned (.tuple #[.agg #[.int .i64 0, .int .i64 0, .string ⟨#[]⟩], .int .i64 5]) ∧ Below w.heap.size w w' := by
  have e1 : ((b.size : Int) == 256) = false := beq_eq_false_iff_ne.2 (by omega)
  have e2 : ((b.size : Int) != 256) = true := by simp; omega
  go_enter Tryz.func39, Tryz.ntmps39
  go_wp2
  exact bodyPost_ret (v := .tuple #[.agg #[.int .i64 0, .int .i64 0, .string ⟨#[]⟩], .int .i64 5]) (by simp [results, Tryz.results39, go_sem]) rfl ⟨rfl, (Below.refl _ _).alloc (Nat.le_refl _) _⟩

set_option maxRecDepth 100000 in
set_option maxHeartbeats 400000 in
theorem popen_sum (id : Int) (b : ByteArray) (w : World) (h : b.size = 256) (x y : Nat) (hx : fld b.data.toList 252 4 = x) (hy : crcB (b.extract 0 252).data.toList = y) (hne : x ≠ y) :
    Calls Tryz.prog 39 #[.int .i64 id, .string b] w fun e w' => e = .returned (.tuple #[.agg #[.int .i64 0, .int .i64 0, .string ⟨#[]⟩], .int .i64 6]) ∧ Below w.heap.size w w' := by
  have hf := fun w => field_at b x 252 4 252 4 w rfl rfl (by omega) (by omega) h (by omega) hx
  have hc := fun g w => crc_cell (b.extract 0 252) g w (by simp; omega)
  rw [hy] at hc
  have HF := Lib.hid hf
  have HC := Lib.hid hc
  have hs : (b.size : Int) = 256 := by omega
  have e2 : ((x : Int) != (y : Int)) = true := by simp; omega
  clear hf hc hx hy hne
  go_enter Tryz.func39, Tryz.ntmps39
  go_wp2_with fail
  go_region_held3 (fun _ => True) (trivial) (first | (go_at_call 70; ((with_reducible refine (HF.out _).mono ?_)); rintro e w2 ⟨rfl, rfl⟩) | (go_at_call 71; ((with_reducible refine (HC.out _ _ (by go_simp)).mono ?_)); rintro e w3 ⟨rfl, rfl⟩))
  all_goals go_wp2
  all_goals refine bodyPost_ret (v := .tuple #[.agg #[.int .i64 0, .int .i64 0, .string ⟨#[]⟩], .int .i64 6]) (by simp [results, Tryz.results39, go_sem]) rfl ⟨rfl, ?_⟩
  all_goals repeat first | exact Below.refl _ _ | refine Below.setCell ?_ (by simp) _ | refine Below.alloc ?_ (by simp) _ | refine Below.drew ?_

/-- What a field's call gives at the five places. -/
structure Fields (b : ByteArray) (kind own next n sum : Nat) : Prop where
  size : b.size = 256
  hkind : fld b.data.toList 0 1 = kind
  hown : fld b.data.toList 1 4 = own
  hnext : fld b.data.toList 5 4 = next
  hn : fld b.data.toList 9 2 = n
  hsum : fld b.data.toList 252 4 = sum
  crc : crcB (b.extract 0 252).data.toList = sum

set_option maxRecDepth 100000 in
set_option maxHeartbeats 1000000 in
theorem popen_form (id : Int) (b : ByteArray) (w : World) (kind own next n sum : Nat) (hF : Fields b kind own next n sum) (h : ((own : Int) != id) = true ∨ ((own : Int) != id) = false ∧ ((kind : Int) == 0) = true ∨ ((own : Int) != id) = false ∧ ((kind : Int) == 0) = false ∧ 240 < n) :
    Calls Tryz.prog 39 #[.int .i64 id, .string b] w fun e w' => e = .returned (.tuple #[.agg #[.int .i64 0, .int .i64 0, .string ⟨#[]⟩], .int .i64 4]) ∧ Below w.heap.size w w' := by
  have hk := fun w => field_at b _ 0 1 0 1 w rfl rfl (by omega) (by omega) hF.size (by omega) hF.hkind
  have ho := fun w => field_at b _ 1 4 1 4 w rfl rfl (by omega) (by omega) hF.size (by omega) hF.hown
  have hn := fun w => field_at b _ 9 2 9 2 w rfl rfl (by omega) (by omega) hF.size (by omega) hF.hn
  have hx := fun w => field_at b _ 5 4 5 4 w rfl rfl (by omega) (by omega) hF.size (by omega) hF.hnext
  have hf := fun w => field_at b _ 252 4 252 4 w rfl rfl (by omega) (by omega) hF.size (by omega) hF.hsum
  have hc := fun g w => crc_cell (b.extract 0 252) g w (by have := hF.size; simp; omega)
  rw [hF.crc] at hc
  have hs : (b.size : Int) = 256 := by have := hF.size; omega
  have HF := Lib.hid hf
  have HC := Lib.hid hc
  have HK := Lib.hid hk
  have HO := Lib.hid ho
  have HN := Lib.hid hn
  have HX := Lib.hid hx
  have e2 : ((sum : Int) != (sum : Int)) = false := by simp
  clear hf hc hk ho hn hx
  clear hF HX
  rcases h with h | ⟨h, h1⟩ | ⟨h, h1, h2⟩
  all_goals
    go_enter Tryz.func39, Tryz.ntmps39
    go_wp2_with fail
    go_region_held3 (fun _ => True) (trivial) (first | (go_at_call 70; ((with_reducible refine (HF.out _).mono ?_)); rintro e w2 ⟨rfl, rfl⟩) | (go_at_call 71; ((with_reducible refine (HC.out _ _ (by go_simp)).mono ?_)); rintro e w3 ⟨rfl, rfl⟩))
    all_goals go_wp2_with (first | (go_at_call 70; first | ((with_reducible refine (HK.out _).mono ?_); rintro e w2 ⟨rfl, rfl⟩) | ((with_reducible refine (HO.out _).mono ?_); rintro e w2 ⟨rfl, rfl⟩) | ((with_reducible refine (HN.out _).mono ?_); rintro e w2 ⟨rfl, rfl⟩)))
    all_goals refine bodyPost_ret (v := .tuple #[.agg #[.int .i64 0, .int .i64 0, .string ⟨#[]⟩], .int .i64 4]) (by simp [results, Tryz.results39, go_sem]) rfl ⟨rfl, ?_⟩
    all_goals repeat first | exact Below.refl _ _ | refine Below.setCell ?_ (by simp) _ | refine Below.alloc ?_ (by simp) _ | refine Below.drew ?_

set_option maxRecDepth 100000 in
set_option maxHeartbeats 1000000 in
theorem popen_tail (id : Int) (b : ByteArray) (w : World) (kind own next n sum : Nat) (hF : Fields b kind own next n sum) (h : ((own : Int) != id) = false) (h1 : ((kind : Int) == 0) = false) (h2 : n ≤ 240) (h3 : zeroB (b.extract (11 + n) 252).data.toList = false) :
    Calls Tryz.prog 39 #[.int .i64 id, .string b] w fun e w' => e = .returned (.tuple #[.agg #[.int .i64 0, .int .i64 0, .string ⟨#[]⟩], .int .i64 4]) ∧ Below w.heap.size w w' := by
  have hk := fun w => field_at b _ 0 1 0 1 w rfl rfl (by omega) (by omega) hF.size (by omega) hF.hkind
  have ho := fun w => field_at b _ 1 4 1 4 w rfl rfl (by omega) (by omega) hF.size (by omega) hF.hown
  have hn := fun w => field_at b _ 9 2 9 2 w rfl rfl (by omega) (by omega) hF.size (by omega) hF.hn
  have hx := fun w => field_at b _ 5 4 5 4 w rfl rfl (by omega) (by omega) hF.size (by omega) hF.hnext
  have hf := fun w => field_at b _ 252 4 252 4 w rfl rfl (by omega) (by omega) hF.size (by omega) hF.hsum
  have hc := fun g w => crc_cell (b.extract 0 252) g w (by have := hF.size; simp; omega)
  rw [hF.crc] at hc
  have hs : (b.size : Int) = 256 := by have := hF.size; omega
  have HF := Lib.hid hf
  have HC := Lib.hid hc
  have HK := Lib.hid hk
  have HO := Lib.hid ho
  have HN := Lib.hid hn
  have HX := Lib.hid hx
  have e2 : ((sum : Int) != (sum : Int)) = false := by simp
  clear hf hc hk ho hn hx
  have ht := fun w => trim_some (b.extract (11 + n) 252) w (by have := hF.size; simp; omega) h3
  have HT := Lib.hid ht
  clear hF HX ht h3
  go_enter Tryz.func39, Tryz.ntmps39
  go_wp2_with fail
  go_region_held3 (fun _ => True) (trivial) (first | (go_at_call 70; ((with_reducible refine (HF.out _).mono ?_)); rintro e w2 ⟨rfl, rfl⟩) | (go_at_call 71; ((with_reducible refine (HC.out _ _ (by go_simp)).mono ?_)); rintro e w3 ⟨rfl, rfl⟩))
  all_goals go_wp2_with (first | (go_at_call 70; first | ((with_reducible refine (HK.out _).mono ?_); rintro e w2 ⟨rfl, rfl⟩) | ((with_reducible refine (HO.out _).mono ?_); rintro e w2 ⟨rfl, rfl⟩) | ((with_reducible refine (HN.out _).mono ?_); rintro e w2 ⟨rfl, rfl⟩)) | (go_at_call 72; ((with_reducible refine (HT.out _).mono ?_)); rintro e w4 ⟨t, ht, rfl, k, rfl⟩; have ht2 : (!t.toList.isEmpty) = true := by simp [ht]))
  all_goals refine bodyPost_ret (v := .tuple #[.agg #[.int .i64 0, .int .i64 0, .string ⟨#[]⟩], .int .i64 4]) (by simp [results, Tryz.results39, go_sem]) rfl ⟨rfl, ?_⟩
  all_goals repeat first | exact Below.refl _ _ | refine Below.setCell ?_ (by simp) _ | refine Below.alloc ?_ (by simp) _ | refine below_drewN ?_ _ | refine Below.drew ?_

set_option maxRecDepth 100000 in
set_option maxHeartbeats 1000000 in
theorem popen_ok (id : Int) (b : ByteArray) (w : World) (kind own next n sum : Nat) (hF : Fields b kind own next n sum) (h : ((own : Int) != id) = false) (h1 : ((kind : Int) == 0) = false) (h2 : n ≤ 240) (h3 : zeroB (b.extract (11 + n) 252).data.toList = true) :
    Calls Tryz.prog 39 #[.int .i64 id, .string b] w fun e w' => e = .returned (.tuple #[.agg #[.int .i64 kind, .int .i64 next, .string (b.extract 11 (11 + n))], .int .i64 0]) ∧ Below w.heap.size w w' := by
  have hk := fun w => field_at b _ 0 1 0 1 w rfl rfl (by omega) (by omega) hF.size (by omega) hF.hkind
  have ho := fun w => field_at b _ 1 4 1 4 w rfl rfl (by omega) (by omega) hF.size (by omega) hF.hown
  have hn := fun w => field_at b _ 9 2 9 2 w rfl rfl (by omega) (by omega) hF.size (by omega) hF.hn
  have hx := fun w => field_at b _ 5 4 5 4 w rfl rfl (by omega) (by omega) hF.size (by omega) hF.hnext
  have hf := fun w => field_at b _ 252 4 252 4 w rfl rfl (by omega) (by omega) hF.size (by omega) hF.hsum
  have hc := fun g w => crc_cell (b.extract 0 252) g w (by have := hF.size; simp; omega)
  rw [hF.crc] at hc
  have hs : (b.size : Int) = 256 := by have := hF.size; omega
  have HF := Lib.hid hf
  have HC := Lib.hid hc
  have HK := Lib.hid hk
  have HO := Lib.hid ho
  have HN := Lib.hid hn
  have HX := Lib.hid hx
  have e2 : ((sum : Int) != (sum : Int)) = false := by simp
  clear hf hc hk ho hn hx
  have ht := fun w => trim_zero (b.extract (11 + n) 252) w (by have := hF.size; simp; omega) h3
  have HT := Lib.hid ht
  have hcl := fun w => tclone_any (b.extract 11 (11 + n)) (by have := hF.size; simp; omega) w
  have HCL := Lib.hid hcl
  clear hF ht h3 hcl
  go_enter Tryz.func39, Tryz.ntmps39
  go_wp2_with fail
  go_region_held3 (fun _ => True) (trivial) (first | (go_at_call 70; ((with_reducible refine (HF.out _).mono ?_)); rintro e w2 ⟨rfl, rfl⟩) | (go_at_call 71; ((with_reducible refine (HC.out _ _ (by go_simp)).mono ?_)); rintro e w3 ⟨rfl, rfl⟩))
  all_goals go_wp2_with (first | (go_at_call 70; first | ((with_reducible refine (HK.out _).mono ?_); rintro e w2 ⟨rfl, rfl⟩) | ((with_reducible refine (HO.out _).mono ?_); rintro e w2 ⟨rfl, rfl⟩) | ((with_reducible refine (HN.out _).mono ?_); rintro e w2 ⟨rfl, rfl⟩) | ((with_reducible refine (HX.out _).mono ?_); rintro e w2 ⟨rfl, rfl⟩)) | (go_at_call 72; ((with_reducible refine (HT.out _).mono ?_)); rintro e w4 ⟨rfl, k, rfl⟩))
  all_goals refine (HCL.out _).mono ?_
  all_goals rintro e w4 ⟨rfl, hb4⟩
  all_goals have q0 : w4.cell? ⟨w.heap.size, 0, none⟩ = some (.int .i64 0) := (hb4.cell (by simp; omega)).trans (by go_simp)
  all_goals have q1 : w4.cell? ⟨w.heap.size, 1, none⟩ = some (.int .i64 0) := (hb4.cell (by simp; omega)).trans (by go_simp)
  all_goals have q2 : w4.cell? ⟨w.heap.size, 2, none⟩ = some (.string ⟨#[]⟩) := (hb4.cell (by simp; omega)).trans (by go_simp)
  all_goals have f0 : w4.frozen? ⟨w.heap.size, 0, none⟩ = false := (hb4.frozen (by simp; omega)).trans (by go_simp)
  all_goals have f1 : w4.frozen? ⟨w.heap.size, 1, none⟩ = false := (hb4.frozen (by simp; omega)).trans (by go_simp)
  all_goals have f2 : w4.frozen? ⟨w.heap.size, 2, none⟩ = false := (hb4.frozen (by simp; omega)).trans (by go_simp)
  all_goals go_wp2_with fail
  all_goals refine (HX.out _).mono ?_
  all_goals rintro e w5 ⟨rfl, rfl⟩
  all_goals go_wp2_with fail
  all_goals have s0 := World.cell?_setCell_same w4 ⟨w.heap.size, 0, none⟩ (.int .i64 kind) q0
  all_goals have s1 := World.cell?_setCell_same (w4.setCell ⟨w.heap.size, 0, none⟩ (.int .i64 kind)) ⟨w.heap.size, 1, none⟩ (.int .i64 next) (show _ = some (.int .i64 0) by rw [World.cell?_setCell_other _ _ _ _ (by simp)]; exact q1)
  all_goals have s2 := World.cell?_setCell_same ((w4.setCell ⟨w.heap.size, 0, none⟩ (.int .i64 kind)).setCell ⟨w.heap.size, 1, none⟩ (.int .i64 next)) ⟨w.heap.size, 2, none⟩ (.string (b.extract 11 (11 + n))) (show _ = some (.string ⟨#[]⟩) by rw [World.cell?_setCell_other _ _ _ _ (by simp), World.cell?_setCell_other _ _ _ _ (by simp)]; exact q2)
  all_goals refine bodyPost_ret (v := .tuple #[.agg #[.int .i64 kind, .int .i64 next, .string (b.extract 11 (11 + n))], .int .i64 0]) (by simp [results, Tryz.results39, go_sem, s0, s1, s2]) rfl ⟨rfl, ?_⟩
  all_goals refine Below.setCell (Below.setCell (Below.setCell (Below.trans ?_ (hb4.mono (by simp; omega))) (by simp) _) (by simp) _) (by simp) _
  all_goals repeat first | exact Below.refl _ _ | refine Below.setCell ?_ (by simp) _ | refine Below.alloc ?_ (by simp) _ | refine below_drewN ?_ _ | refine Below.drew ?_

theorem fields_of (b : ByteArray) (h : b.size = 256) (hs : fld b.data.toList 252 4 = crcB (b.data.toList.take 252)) : Fields b (fld b.data.toList 0 1) (fld b.data.toList 1 4) (fld b.data.toList 5 4) (fld b.data.toList 9 2) (fld b.data.toList 252 4) :=
  ⟨h, rfl, rfl, rfl, rfl, rfl, by rw [hs]; congr 1; simp⟩

/-- Open, of any number and any bytes. -/
theorem open_any (id : Int) (b : ByteArray) (w : World) : Calls Tryz.prog 39 #[.int .i64 id, .string b] w fun e w' => e = .returned (openV id b.data.toList) ∧ Below w.heap.size w w' := by
  have hl : b.data.toList.length = b.size := by simp
  by_cases h : b.size = 256
  · have hx : (b.extract 0 252).data.toList = b.data.toList.take 252 := by simp
    by_cases h1 : fld b.data.toList 252 4 = crcB (b.data.toList.take 252)
    · have hF := fields_of b h h1
      by_cases h2 : (fld b.data.toList 1 4 : Int) ≠ id ∨ fld b.data.toList 0 1 = 0 ∨ 240 < fld b.data.toList 9 2
      · rw [openV_bad (open_form (hl.trans h) h1 h2) (by decide)]
        refine popen_form id b w _ _ _ _ _ hF ?_
        by_cases a : (fld b.data.toList 1 4 : Int) = id
        · refine .inr ?_
          by_cases c : fld b.data.toList 0 1 = 0
          · exact .inl ⟨by simpa using a, by simpa using c⟩
          · exact .inr ⟨by simpa using a, by simpa using c, by omega⟩
        · exact .inl (by simpa using a)
      · have a : (fld b.data.toList 1 4 : Int) = id := by omega
        have c : ¬ fld b.data.toList 0 1 = 0 := by omega
        have d : fld b.data.toList 9 2 ≤ 240 := by omega
        have ht : (b.extract (11 + fld b.data.toList 9 2) 252).data.toList = tailB b.data.toList := by
          unfold tailB
          rw [ByteArray.data_extract, Array.toList_extract, List.extract_eq_take_drop, List.drop_take]
        cases h3 : zeroB (tailB b.data.toList)
        · rw [openV_bad (open_tail (hl.trans h) h1 h2 h3) (by decide)]
          exact popen_tail id b w _ _ _ _ _ hF (by simpa using a) (by simpa using c) d (by rw [ht]; exact h3)
        · rw [openV_ok (open_ok (hl.trans h) h1 h2 h3)]
          have e : (⟨((b.data.toList.drop 11).take (fld b.data.toList 9 2)).toArray⟩ : ByteArray) = b.extract 11 (11 + fld b.data.toList 9 2) := by
            apply ByteArray.ext
            apply Array.ext'
            rw [ByteArray.data_extract, Array.toList_extract, List.extract_eq_take_drop]
            simp
          rw [e]
          exact popen_ok id b w _ _ _ _ _ hF (by simpa using a) (by simpa using c) d (by rw [ht]; exact h3)
    · rw [openV_bad (open_sum (hl.trans h) h1) (by decide)]
      exact popen_sum id b w h _ _ rfl rfl (by rw [hx]; exact h1)
  · rw [openV_bad (open_short (by rw [hl]; exact h)) (by decide)]
    exact popen_short id b w h
end Go.Proofs.YtmcfldcpmjdfbaaGreatDoor

namespace Go.Proofs.YtmcfldcpmjdfbaaGreatDoor
open Go.RowKit Go.Sort

set_option maxRecDepth 1000000 in
set_option maxHeartbeats 1000000 in
theorem gnone_nil (w : World) : Calls Tryz.prog 34 #[.pointer none] w fun e w' => e = .returned (.bool true) ∧ w = w' := by
  go_enter Tryz.func34, Tryz.ntmps34
  go_wp2
  go_ret
  exact ⟨rfl, rfl⟩
set_option maxRecDepth 1000000 in
set_option maxHeartbeats 1000000 in
theorem gnone_zero (p : Nat) (w : World) (c0 : w.cell? ⟨p, 0, none⟩ = some (.pointer none)) : Calls Tryz.prog 34 #[.pointer (some ⟨p, 0, none⟩)] w fun e w' => e = .returned (.bool true) ∧ w = w' := by
  go_enter Tryz.func34, Tryz.ntmps34
  go_wp2
  go_ret
  exact ⟨rfl, rfl⟩
set_option maxRecDepth 1000000 in
set_option maxHeartbeats 1000000 in
theorem gnone_at (p pd : Nat) (w : World) (c0 : w.cell? ⟨p, 0, none⟩ = some (.pointer (some ⟨pd, 0, none⟩))) : Calls Tryz.prog 34 #[.pointer (some ⟨p, 0, none⟩)] w fun e w' => e = .returned (.bool false) ∧ w = w' := by
  go_enter Tryz.func34, Tryz.ntmps34
  go_wp2
  go_ret
  exact ⟨rfl, rfl⟩

/-- The cells of a pager, as they are read. -/
theorem pg_cells {w : World} {p pd pf b : Nat} {v : Value} {t0 t1 t2 : Int} (h : Has w p 45 (pgCells pd pf b v t0 t1 t2)) :
    w.cell? ⟨p, 0, none⟩ = some (.pointer (some ⟨pd, 0, none⟩)) ∧ w.cell? ⟨p, 1, none⟩ = some (.pointer (some ⟨pf, 0, none⟩)) ∧ w.cell? ⟨p, 6, none⟩ = some (.int .i64 t0) ∧ w.cell? ⟨p, 7, none⟩ = some (.int .i64 t1) ∧
    w.cell? ⟨p, 8, none⟩ = some (.int .i64 t2) ∧ w.cell? ⟨p, 9, none⟩ = some (.map (some b)) :=
  ⟨h.cell 0, h.cell 1, h.cell 6, h.cell 7, h.cell 8, h.cell 9⟩

section
variable {p pd pf b : Nat} {s : PgS} {F : List Nat} {w : World}

set_option maxRecDepth 1000000 in
set_option maxHeartbeats 1000000 in
theorem gown_any (x : Int) (hx : IsInt x) (h : PgIs p pd pf b s F w) :
    Calls Tryz.prog 15 #[.pointer (some ⟨p, 0, none⟩), .int .i64 x] w fun e w' => e = .returned (.bool (decide ((s.H x).fate = 1))) ∧ w = w' := by
  obtain ⟨v, hp⟩ := h.cells
  obtain ⟨c0, c1, c6, c7, c8, c9⟩ := pg_cells hp
  have hl := h.here.look hx
  have hn := gnone_at p pd w c0
  unfold chgV at hl
  generalize s.H x = c at *
  obtain ⟨f, k, n, t⟩ := c
  simp only at hl ⊢
  have hfd := chg_fate f k n t
  clear h hp hx
  go_enter Tryz.func15, Tryz.ntmps15
  go_wp2_with (go_at_call 34; refine hn.mono ?_; rintro e w' ⟨rfl, rfl⟩)
  go_ret
  exact ⟨ret_bool (by simp [BEq.beq]), rfl⟩

set_option maxRecDepth 1000000 in
set_option maxHeartbeats 1000000 in
theorem gpages_any (h : PgIs p pd pf b s F w) : Calls Tryz.prog 16 #[.pointer (some ⟨p, 0, none⟩)] w fun e w' => e = .returned (.int .i64 s.pages) ∧ w = w' := by
  obtain ⟨v, hp⟩ := h.cells
  obtain ⟨c0, c1, c6, c7, c8, c9⟩ := pg_cells hp
  have hn := gnone_at p pd w c0
  clear h hp
  go_enter Tryz.func16, Tryz.ntmps16
  go_wp2_with (go_at_call 34; refine hn.mono ?_; rintro e w' ⟨rfl, rfl⟩)
  go_ret
  exact ⟨rfl, rfl⟩

set_option maxRecDepth 1000000 in
set_option maxHeartbeats 2000000 in
theorem gread_out (x : Int) (hx : x < 2 ∨ s.pages ≤ x) (h : PgIs p pd pf b s F w) :
    Calls Tryz.prog 9 #[.pointer (some ⟨p, 0, none⟩), .int .i64 x] w fun e w' => e = .returned (.tuple #[.agg #[.int .i64 0, .int .i64 0, .string ⟨#[]⟩], .int .i64 3]) ∧ Below w.heap.size w w' := by
  obtain ⟨v, hp⟩ := h.cells
  have hi := hp.inside
  obtain ⟨c0, c1, c6, c7, c8, c9⟩ := pg_cells hp
  have hn := gnone_at p pd _ ((hp.alloc (.cells #[.int .i64 0, .int .i64 0, .string ⟨#[]⟩] 23)).cell 0)
  generalize s.pages = q at *
  clear h hp
  rcases Int.lt_or_le x 2 with h2 | h2
  · have hb1 : decide (x < 2) = true := by simpa using h2
    clear hx h2
    go_enter Tryz.func9, Tryz.ntmps9
    go_wp2_with (go_at_call 34; refine hn.mono ?_; rintro e w' ⟨rfl, rfl⟩)
    exact bodyPost_ret (v := .tuple #[.agg #[.int .i64 0, .int .i64 0, .string ⟨#[]⟩], .int .i64 3]) (by simp [results, Tryz.results9, go_sem]) rfl ⟨rfl, (Below.refl _ _).alloc (Nat.le_refl _) _⟩
  · have hb1 : decide (x < 2) = false := by simpa using h2
    have hb2 : decide (q ≤ x) = true := by simp; omega
    clear hx h2
    go_enter Tryz.func9, Tryz.ntmps9
    go_wp2_with (go_at_call 34; refine hn.mono ?_; rintro e w' ⟨rfl, rfl⟩)
    exact bodyPost_ret (v := .tuple #[.agg #[.int .i64 0, .int .i64 0, .string ⟨#[]⟩], .int .i64 3]) (by simp [results, Tryz.results9, go_sem]) rfl ⟨rfl, (Below.refl _ _).alloc (Nat.le_refl _) _⟩

set_option maxRecDepth 1000000 in
set_option maxHeartbeats 2000000 in
theorem gread_made (x : Int) (h0 : 2 ≤ x) (h1 : x < s.pages) (hx : IsInt x) (hf : (s.H x).fate = 1) (hs : (s.H x).body.size ≤ 281474976710656) (h : PgIs p pd pf b s F w) :
    Calls Tryz.prog 9 #[.pointer (some ⟨p, 0, none⟩), .int .i64 x] w fun e w' => e = .returned (.tuple #[.agg #[.int .i64 (s.H x).kind, .int .i64 (s.H x).next, .string (s.H x).body], .int .i64 0]) ∧ Below w.heap.size w w' := by
  have hA : Below w.heap.size w (w.alloc (.cells #[.int .i64 0, .int .i64 0, .string ⟨#[]⟩] 23)) := (Below.refl _ _).alloc (Nat.le_refl _) _
  have h' := h.below hA
  obtain ⟨v, hp⟩ := h'.cells
  have hi := hp.inside
  obtain ⟨c0, c1, c6, c7, c8, c9⟩ := pg_cells hp
  have hl := h'.here.look hx
  have hn := gnone_at p pd _ c0
  unfold chgV at hl
  generalize s.H x = c at *
  obtain ⟨f, k, n, t⟩ := c
  simp only at hf hs hl ⊢
  subst hf
  have hb1 : decide (x < 2) = false := by simpa using h0
  have hb2 : decide (s.pages ≤ x) = false := by simpa using h1
  generalize s.pages = q at *
  clear h hp h'
  go_enter Tryz.func9, Tryz.ntmps9
  go_wp2_with (go_at_call 34; refine hn.mono ?_; rintro e w' ⟨rfl, rfl⟩)
  refine (tclone_any t hs _).mono ?_
  rintro e w1 ⟨rfl, hb⟩
  have hB : Below w.heap.size w w1 := (hA.alloc (by simp) (.cells #[.int .i64 1, .int .i64 k, .int .i64 n, .string t] 84)).trans (hb.mono (by simp; omega))
  have hr : Has w1 w.heap.size 23 #[.int .i64 0, .int .i64 0, .string ⟨#[]⟩] := ((Has.made w 23 #[.int .i64 0, .int .i64 0, .string ⟨#[]⟩]).alloc (.cells #[.int .i64 1, .int .i64 k, .int .i64 n, .string t] 84)).below hb (by simp; omega)
  have hc : Has w1 (w.heap.size + 1) 84 #[.int .i64 1, .int .i64 k, .int .i64 n, .string t] := by
    have := (Has.made (w.alloc (.cells #[.int .i64 0, .int .i64 0, .string ⟨#[]⟩] 23)) 84 #[.int .i64 1, .int .i64 k, .int .i64 n, .string t]).below hb (by simp)
    simpa using this
  have r0 := hr.cell 0
  have r1 := hr.cell 1
  have r2 := hr.cell 2
  have e0 := hr.free 0
  have e1 := hr.free 1
  have e2 := hr.free 2
  have d1 := hc.cell 1
  have d2 := hc.cell 2
  have d3 := hc.cell 3
  have f3 := hc.free 3
  have hi1 := hc.inside
  have hi2 := hr.inside
  simp at r0 r1 r2 d1 d2 d3
  have HB := Lib.hid hB
  clear hB hr hc hb hA hl c0 c1 c6 c7 c8 c9 hn hi
  go_wp2
  refine bodyPost_ret (v := .tuple #[.agg #[.int .i64 k, .int .i64 n, .string t], .int .i64 0]) (by simp [results, Tryz.results9, go_sem, r0, r1, r2, d1, d2, d3]) rfl ⟨rfl, ?_⟩
  exact (((HB.out.setCell (by simp) _).setCell (Nat.le_refl _) _).setCell (Nat.le_refl _) _).setCell (Nat.le_refl _) _
set_option maxRecDepth 1000000 in
set_option maxHeartbeats 2000000 in
theorem gread_gone (x : Int) (h0 : 2 ≤ x) (h1 : x < s.pages) (hx : IsInt x) (hf : (s.H x).fate = 2 ∨ (s.H x).fate = 3) (h : PgIs p pd pf b s F w) :
    Calls Tryz.prog 9 #[.pointer (some ⟨p, 0, none⟩), .int .i64 x] w fun e w' => e = .returned (.tuple #[.agg #[.int .i64 0, .int .i64 0, .string ⟨#[]⟩], .int .i64 7]) ∧ Below w.heap.size w w' := by
  have hA : Below w.heap.size w (w.alloc (.cells #[.int .i64 0, .int .i64 0, .string ⟨#[]⟩] 23)) := (Below.refl _ _).alloc (Nat.le_refl _) _
  have h' := h.below hA
  obtain ⟨v, hp⟩ := h'.cells
  have hi := hp.inside
  obtain ⟨c0, c1, c6, c7, c8, c9⟩ := pg_cells hp
  have hl := h'.here.look hx
  have hn := gnone_at p pd _ c0
  unfold chgV at hl
  generalize s.H x = c at *
  obtain ⟨f, k, n, t⟩ := c
  simp only at hf hl ⊢
  have hb1 : decide (x < 2) = false := by simpa using h0
  have hb2 : decide (s.pages ≤ x) = false := by simpa using h1
  generalize s.pages = q at *
  clear h hp h'
  rcases hf with rfl | rfl
  · go_enter Tryz.func9, Tryz.ntmps9
    go_wp2_with (go_at_call 34; refine hn.mono ?_; rintro e w' ⟨rfl, rfl⟩)
    refine bodyPost_ret (v := .tuple #[.agg #[.int .i64 0, .int .i64 0, .string ⟨#[]⟩], .int .i64 7]) (by simp [results, Tryz.results9, go_sem]) rfl ⟨rfl, ?_⟩
    exact hA.alloc (by simp) _
  · go_enter Tryz.func9, Tryz.ntmps9
    go_wp2_with (go_at_call 34; refine hn.mono ?_; rintro e w' ⟨rfl, rfl⟩)
    refine bodyPost_ret (v := .tuple #[.agg #[.int .i64 0, .int .i64 0, .string ⟨#[]⟩], .int .i64 7]) (by simp [results, Tryz.results9, go_sem]) rfl ⟨rfl, ?_⟩
    exact hA.alloc (by simp) _

set_option maxRecDepth 1000000 in
set_option maxHeartbeats 2000000 in
theorem gread_dev (x : Int) (h0 : 2 ≤ x) (h1 : x < s.pages) (hx : IsInt x) (hf : (s.H x).fate ≠ 1 ∧ (s.H x).fate ≠ 2 ∧ (s.H x).fate ≠ 3) (h : PgIs p pd pf b s F w) :
    Calls Tryz.prog 9 #[.pointer (some ⟨p, 0, none⟩), .int .i64 x] w fun e w' => (∃ (k n : Int) (t : ByteArray) (g : Int), e = .returned (.tuple #[.agg #[.int .i64 k, .int .i64 n, .string t], .int .i64 g])) ∧ Below w.heap.size w w' := by
  have hA : Below w.heap.size w (w.alloc (.cells #[.int .i64 0, .int .i64 0, .string ⟨#[]⟩] 23)) := (Below.refl _ _).alloc (Nat.le_refl _) _
  have h' := h.below hA
  obtain ⟨v, hp⟩ := h'.cells
  have hi := hp.inside
  obtain ⟨c0, c1, c6, c7, c8, c9⟩ := pg_cells hp
  have hl := h'.here.look hx
  have hn := gnone_at p pd _ c0
  unfold chgV at hl
  generalize s.H x = c at *
  obtain ⟨f, k, n, t⟩ := c
  simp only at hf hl
  have hb1 : decide (x < 2) = false := by simpa using h0
  have hb2 : decide (s.pages ≤ x) = false := by simpa using h1
  have f1 : (f == 1) = false := by simpa using hf.1
  have f2 : (f == 2) = false := by simpa using hf.2.1
  have f3 : (f == 3) = false := by simpa using hf.2.2
  have hA2 : Below w.heap.size w ((w.alloc (.cells #[.int .i64 0, .int .i64 0, .string ⟨#[]⟩] 23)).alloc (.cells #[.int .i64 f, .int .i64 k, .int .i64 n, .string t] 84)) := hA.alloc (by simp) _
  obtain ⟨FD, hd, -, -⟩ := (h.below hA2).devL
  obtain ⟨v2, hp2⟩ := (h.below hA2).cells
  have g0 := (pg_cells hp2).1
  have hrd := read_any pd s.dev FD x _ hd
  generalize readB s.dev x = rb at *
  generalize readE s.dev x = re at *
  generalize s.pages = q at *
  have H := Lib.hid hA2
  clear h hp h' hd hA hA2 hf hp2
  go_enter Tryz.func9, Tryz.ntmps9
  go_wp2_with (go_at_call 34; refine hn.mono ?_; rintro e w' ⟨rfl, rfl⟩)
  refine hrd.mono ?_
  rintro e w1 ⟨rfl, hb⟩
  have hr : Has w1 w.heap.size 23 #[.int .i64 0, .int .i64 0, .string ⟨#[]⟩] := ((Has.made w 23 #[.int .i64 0, .int .i64 0, .string ⟨#[]⟩]).alloc (.cells #[.int .i64 f, .int .i64 k, .int .i64 n, .string t] 84)).below hb (by simp; omega)
  have hB : Below w.heap.size w w1 := H.out.trans (hb.mono (by simp; omega))
  clear hrd hb hl c0 c1 c6 c7 c8 c9 hn hi g0
  have hi2 := hr.inside
  by_cases hre : re = 0
  · subst hre
    have hop := open_any x rb w1
    have HR := Lib.hid (And.intro hr hB)
    clear hr hB
    go_wp2_with fail
    refine hop.mono ?_
    rintro e w2 ⟨rfl, hb2⟩
    unfold openV
    generalize (openK x rb.data.toList : Int) = kk at *
    generalize (openN x rb.data.toList : Int) = nn at *
    generalize (⟨(openS x rb.data.toList).toArray⟩ : ByteArray) = tt at *
    generalize openE x rb.data.toList = ee at *
    have hr := HR.out.1.below hb2 hi2
    have r0 := hr.cell 0
    have r1 := hr.cell 1
    have r2 := hr.cell 2
    have e0 := hr.free 0
    have e1 := hr.free 1
    have e2 := hr.free 2
    simp at r0 r1 r2
    have hi3 := hr.inside
    have HB := Lib.hid (HR.out.2.trans (hb2.mono (by omega)))
    clear hr hb2 hop
    go_wp2
    refine bodyPost_ret (v := .tuple #[.agg #[.int .i64 kk, .int .i64 nn, .string tt], .int .i64 ee]) (by simp [results, Tryz.results9, go_sem, r0, r1, r2]) rfl ⟨⟨kk, nn, tt, ee, rfl⟩, ?_⟩
    exact ((HB.out.setCell (Nat.le_refl _) _).setCell (Nat.le_refl _) _).setCell (Nat.le_refl _) _
  · have hre' : (re != 0) = true := by simpa using hre
    have r0 := hr.cell 0
    have r1 := hr.cell 1
    have r2 := hr.cell 2
    have e0 := hr.free 0
    have e1 := hr.free 1
    have e2 := hr.free 2
    simp at r0 r1 r2
    have HB := Lib.hid hB
    clear hr hB hre
    go_wp2
    refine bodyPost_ret (v := .tuple #[.agg #[.int .i64 0, .int .i64 0, .string ⟨#[]⟩], .int .i64 re]) (by simp [results, Tryz.results9, go_sem, r0, r1, r2]) rfl ⟨⟨0, 0, ⟨#[]⟩, re, rfl⟩, ?_⟩
    exact ((HB.out.setCell (Nat.le_refl _) _).setCell (Nat.le_refl _) _).setCell (Nat.le_refl _) _

/-- Read, of any number: where it is OK there is such a page, and it was not dropped here. -/
theorem gread_any (x : Int) (hx : IsInt x) (hs : (s.H x).body.size ≤ 281474976710656) (h : PgIs p pd pf b s F w) :
    Calls Tryz.prog 9 #[.pointer (some ⟨p, 0, none⟩), .int .i64 x] w fun e w' => (∃ (k n : Int) (t : ByteArray) (g : Int), e = .returned (.tuple #[.agg #[.int .i64 k, .int .i64 n, .string t], .int .i64 g]) ∧ (g = 0 → 2 ≤ x ∧ x < s.pages ∧ (s.H x).fate ≠ 2 ∧ (s.H x).fate ≠ 3) ∧ (2 ≤ x → x < s.pages → (s.H x).fate = 1 → g = 0)) ∧ Below w.heap.size w w' := by
  by_cases h0 : x < 2 ∨ s.pages ≤ x
  · exact (gread_out x h0 h).mono fun e w' ⟨he, hb⟩ => ⟨⟨0, 0, _, 3, he, by simp, fun _ _ _ => by omega⟩, hb⟩
  · have a : 2 ≤ x := by omega
    have c : x < s.pages := by omega
    by_cases f1 : (s.H x).fate = 1
    · exact (gread_made x a c hx f1 hs h).mono fun e w' ⟨he, hb⟩ => ⟨⟨_, _, _, 0, he, fun _ => ⟨a, c, by omega, by omega⟩, fun _ _ _ => rfl⟩, hb⟩
    · by_cases f2 : (s.H x).fate = 2 ∨ (s.H x).fate = 3
      · exact (gread_gone x a c hx f2 h).mono fun e w' ⟨he, hb⟩ => ⟨⟨0, 0, _, 7, he, by simp, fun _ _ hf => absurd hf f1⟩, hb⟩
      · exact (gread_dev x a c hx (by omega) h).mono fun e w' ⟨⟨k, n, t, g, he⟩, hb⟩ => ⟨⟨k, n, t, g, he, fun _ => ⟨a, c, by omega, by omega⟩, fun _ _ hf => absurd hf f1⟩, hb⟩
end
end Go.Proofs.YtmcfldcpmjdfbaaGreatDoor
