/-
  Walks over package page, and the document's own: small words; the sum of one text. Walks over package page: Open.
-/
import Derived.Test.YthcpjpebahiikaaDoorMg10
import Derived.Test.YthcpjpebahiikaaDoorMg2
import Derived.Test.YthcpjpebahiikaaDoorMg11
import Derived.Deep.QuietTactic
import Derived.BigQuiet
import Derived.Deep.RegionHeld3
import Derived.StillTailTactics
namespace Go.Proofs.YthcpjpebahiikaaDoor
open Go.RowKit Go.Lib

theorem cat_data (a b : ByteArray) : (a ++ b).data.toList = a.data.toList ++ b.data.toList := by simp

theorem crc_cell (s : ByteArray) (g : Nat) (w : World) (hs : s.size ≤ 9223372036854775807) (hc : w.cell? ⟨g, 0, none⟩ = some (.string s)) :
    Calls Tryd.prog 39 #[.slice (some ⟨g, 0, none⟩) 1 1] w fun e w' => e = .returned (.int .i64 (crcB s.data.toList)) ∧ w = w' := by
  have hr : Reads1 w w.heap.size (.slice (some ⟨g, 0, none⟩) 1 1) ([s].map Value.string) := by
    refine ⟨_, _, rfl, fun _ => ⟨g, 0, rfl, World.block_lt_of_cell? w _ hc, fun j u hu => ?_⟩⟩
    match j, hu with
    | 0, hu => simp at hu; subst hu; exact hc
    | j + 1, hu => simp at hu
  have h := crc_any _ [s] _ hr (by simp) (by intro x hx; simp at hx; subst hx; exact hs)
  have e1 : flat [s] = s.data.toList := by simp [flat]
  rw [e1] at h
  exact h

set_option maxRecDepth 100000 in
set_option maxHeartbeats 400000 in
theorem field_any (s : ByteArray) (a n : Nat) (w : World) (h1 : 1 ≤ n) (h7 : n ≤ 7) (hs : s.size ≤ 9223372036854775807) (h : a + n ≤ s.size) :
    Calls Tryd.prog 42 #[.string s, .int .i64 a, .int .i64 n] w fun e w' => e = .returned (.int .i64 (fld s.data.toList a n)) ∧ w = w' := by
  have H := Lib.hid (fun w => unfix_ok s a n w h1 h7 hs h)
  clear h1 h7 hs h
  unfold fld
  go_enter Tryd.func42, Tryd.ntmps42
  go_wp2_with (go_at_call 44; refine (H.out _).mono ?_; rintro e w' ⟨rfl, rfl⟩)
  go_ret
  exact ⟨rfl, rfl⟩

/-- A field of a text of 256 bytes, at given places. -/
theorem field_at (s : ByteArray) (x : Nat) (i n : Int) (a k : Nat) (w : World) (hi : i = a) (hn : n = k) (h1 : 1 ≤ k) (h7 : k ≤ 7) (hs : s.size = 256) (h : a + k ≤ 256) (hx : fld s.data.toList a k = x) :
    Calls Tryd.prog 42 #[.string s, .int .i64 i, .int .i64 n] w fun e w' => e = .returned (.int .i64 x) ∧ w = w' := by
  subst hi hn hx
  exact field_any s a k w h1 h7 (by omega) (by omega)

theorem dropWhile_all {α : Type} (p : α → Bool) : ∀ l : List α, (∀ x ∈ l.dropWhile p, p x = true) → ∀ x ∈ l, p x = true
  | [], _ => by simp
  | a :: r, h => by
    by_cases ha : p a = true
    · rw [List.dropWhile_cons_of_pos ha] at h
      intro x hx
      rcases List.mem_cons.1 hx with rfl | hx
      · exact ha
      · exact dropWhile_all p r h x hx
    · rw [List.dropWhile_cons_of_neg ha] at h
      exact absurd (h a (by simp)) ha
theorem dropWhile_nil {α : Type} (p : α → Bool) (l : List α) : l.dropWhile p = [] ↔ ∀ x ∈ l, p x = true := by
  constructor
  · intro h
    exact dropWhile_all p l (by rw [h]; simp)
  · intro h
    induction l with
    | nil => rfl
    | cons a r ih => rw [List.dropWhile_cons_of_pos (h a (by simp))]; exact ih (fun x hx => h x (by simp [hx]))
theorem trimB_nil (l : List UInt8) : trimB l 0 = [] ↔ zeroB l = true := by
  unfold trimB trimLeftB trimRightB zeroB
  rw [dropWhile_nil, List.all_eq_true]
  constructor
  · intro h x hx
    exact dropWhile_all (fun c => c == 0) l.reverse (fun y hy => h y (by simpa using hy)) x (by simpa using hx)
  · intro h x hx
    exact h x (by have := (List.dropWhile_sublist _).subset (List.mem_reverse.1 hx); simpa using this)

set_option maxHeartbeats 400000 in
theorem trim_zero (s : ByteArray) (w : World) (hs : s.size ≤ 9223372036854775807) (h : zeroB s.data.toList = true) :
    Calls Tryd.prog 43 #[.string s, .string ⟨#[0]⟩] w fun e w' => e = .returned (.string ⟨#[]⟩) ∧ ∃ k, w' = w.drewN k := by
  have h1 := Tryd.strings_Trim_one s 0 (by decide) w hs
  rw [(trimB_nil _).2 h] at h1
  refine h1.mono ?_
  rintro e w' ⟨rfl, rfl | rfl⟩
  · exact ⟨rfl, 0, rfl⟩
  · exact ⟨rfl, 1, rfl⟩
theorem trim_some (s : ByteArray) (w : World) (hs : s.size ≤ 9223372036854775807) (h : zeroB s.data.toList = false) :
    Calls Tryd.prog 43 #[.string s, .string ⟨#[0]⟩] w fun e w' => ∃ t : ByteArray, t.toList.isEmpty = false ∧ e = .returned (.string t) ∧ ∃ k, w' = w.drewN k := by
  have h1 := Tryd.strings_Trim_one s 0 (by decide) w hs
  have h2 : trimB s.data.toList 0 ≠ [] := fun e => by rw [(trimB_nil _).1 e] at h; exact absurd h (by simp)
  refine h1.mono ?_
  have h3 : ByteArray.toList ⟨(trimB s.data.toList 0).toArray⟩ ≠ [] := by rw [ByteArray.toList_eq]; simpa using h2
  rintro e w' ⟨rfl, rfl | rfl⟩
  · exact ⟨_, by simpa using h3, rfl, 0, rfl⟩
  · exact ⟨_, by simpa using h3, rfl, 1, rfl⟩
end Go.Proofs.YthcpjpebahiikaaDoor

namespace Go.Proofs.YthcpjpebahiikaaDoor
open Go.RowKit Go.Lib

set_option maxRecDepth 100000 in
set_option maxHeartbeats 400000 in
theorem popen_short (id : Int) (b : ByteArray) (w : World) (h : b.size ≠ 256) :
    Calls Tryd.prog 25 #[.int .i64 id, .string b] w fun e w' => e = .returned (.tuple #[.agg #[.int .i64 0, .int .i64 0, .string ⟨#[]⟩], .int .i64 5]) ∧ Below w.heap.size w w' := by
  have e1 : ((b.size : Int) == 256) = false := beq_eq_false_iff_ne.2 (by omega)
  have e2 : ((b.size : Int) != 256) = true := by simp; omega
  go_enter Tryd.func25, Tryd.ntmps25
  go_wp2
  exact bodyPost_ret (v := .tuple #[.agg #[.int .i64 0, .int .i64 0, .string ⟨#[]⟩], .int .i64 5]) (by simp [results, Tryd.results25, go_sem]) rfl ⟨rfl, (Below.refl _ _).alloc (Nat.le_refl _) _⟩

set_option maxRecDepth 100000 in
set_option maxHeartbeats 400000 in
theorem popen_sum (id : Int) (b : ByteArray) (w : World) (h : b.size = 256) (x y : Nat) (hx : fld b.data.toList 252 4 = x) (hy : crcB (b.extract 0 252).data.toList = y) (hne : x ≠ y) :
    Calls Tryd.prog 25 #[.int .i64 id, .string b] w fun e w' => e = .returned (.tuple #[.agg #[.int .i64 0, .int .i64 0, .string ⟨#[]⟩], .int .i64 6]) ∧ Below w.heap.size w w' := by
  have hf := fun w => field_at b x 252 4 252 4 w rfl rfl (by omega) (by omega) h (by omega) hx
  have hc := fun g w => crc_cell (b.extract 0 252) g w (by simp; omega)
  rw [hy] at hc
  have HF := Lib.hid hf
  have HC := Lib.hid hc
  have hs : (b.size : Int) = 256 := by omega
  have e2 : ((x : Int) != (y : Int)) = true := by simp; omega
  clear hf hc hx hy hne
  go_enter Tryd.func25, Tryd.ntmps25
  go_wp2_with fail
  go_region_held3 (fun _ => True) (trivial) (first | (go_at_call 42; ((with_reducible refine (HF.out _).mono ?_)); rintro e w2 ⟨rfl, rfl⟩) | (go_at_call 39; ((with_reducible refine (HC.out _ _ (by go_simp)).mono ?_)); rintro e w3 ⟨rfl, rfl⟩))
  all_goals go_wp2
  all_goals refine bodyPost_ret (v := .tuple #[.agg #[.int .i64 0, .int .i64 0, .string ⟨#[]⟩], .int .i64 6]) (by simp [results, Tryd.results25, go_sem]) rfl ⟨rfl, ?_⟩
  all_goals repeat first | exact Below.refl _ _ | refine Below.setCell ?_ (by simp) _ | refine Below.alloc ?_ (by simp) _ | refine Below.drew ?_

/-- What a field's call gives at the five places. -/
structure Fields (b : ByteArray) (kind own next n sum : Nat) : Prop where
  size : b.size = 256
  hkind : fld b.data.toList 0 1 = kind
  hown : fld b.data.toList 1 4 = own
  hnext : fld b.data.toList 5 4 = next
  hn : fld b.data.toList 9 2 = n
  hsum : fld b.data.toList 252 4 = sum
  crc : crcB (b.extract 0 252).data.toList = sum

set_option maxRecDepth 100000 in
set_option maxHeartbeats 1000000 in
theorem popen_form (id : Int) (b : ByteArray) (w : World) (kind own next n sum : Nat) (hF : Fields b kind own next n sum) (h : ((own : Int) != id) = true ∨ ((own : Int) != id) = false ∧ ((kind : Int) == 0) = true ∨ ((own : Int) != id) = false ∧ ((kind : Int) == 0) = false ∧ 240 < n) :
    Calls Tryd.prog 25 #[.int .i64 id, .string b] w fun e w' => e = .returned (.tuple #[.agg #[.int .i64 0, .int .i64 0, .string ⟨#[]⟩], .int .i64 4]) ∧ Below w.heap.size w w' := by
  have hk := fun w => field_at b _ 0 1 0 1 w rfl rfl (by omega) (by omega) hF.size (by omega) hF.hkind
  have ho := fun w => field_at b _ 1 4 1 4 w rfl rfl (by omega) (by omega) hF.size (by omega) hF.hown
  have hn := fun w => field_at b _ 9 2 9 2 w rfl rfl (by omega) (by omega) hF.size (by omega) hF.hn
  have hx := fun w => field_at b _ 5 4 5 4 w rfl rfl (by omega) (by omega) hF.size (by omega) hF.hnext
  have hf := fun w => field_at b _ 252 4 252 4 w rfl rfl (by omega) (by omega) hF.size (by omega) hF.hsum
  have hc := fun g w => crc_cell (b.extract 0 252) g w (by have := hF.size; simp; omega)
  rw [hF.crc] at hc
  have hs : (b.size : Int) = 256 := by have := hF.size; omega
  have HF := Lib.hid hf
  have HC := Lib.hid hc
  have HK := Lib.hid hk
  have HO := Lib.hid ho
  have HN := Lib.hid hn
  have HX := Lib.hid hx
  have e2 : ((sum : Int) != (sum : Int)) = false := by simp
  clear hf hc hk ho hn hx
  clear hF HX
  rcases h with h | ⟨h, h1⟩ | ⟨h, h1, h2⟩
  all_goals
    go_enter Tryd.func25, Tryd.ntmps25
    go_wp2_with fail
    go_region_held3 (fun _ => True) (trivial) (first | (go_at_call 42; ((with_reducible refine (HF.out _).mono ?_)); rintro e w2 ⟨rfl, rfl⟩) | (go_at_call 39; ((with_reducible refine (HC.out _ _ (by go_simp)).mono ?_)); rintro e w3 ⟨rfl, rfl⟩))
    all_goals go_wp2_with (first | (go_at_call 42; first | ((with_reducible refine (HK.out _).mono ?_); rintro e w2 ⟨rfl, rfl⟩) | ((with_reducible refine (HO.out _).mono ?_); rintro e w2 ⟨rfl, rfl⟩) | ((with_reducible refine (HN.out _).mono ?_); rintro e w2 ⟨rfl, rfl⟩)))
    all_goals refine bodyPost_ret (v := .tuple #[.agg #[.int .i64 0, .int .i64 0, .string ⟨#[]⟩], .int .i64 4]) (by simp [results, Tryd.results25, go_sem]) rfl ⟨rfl, ?_⟩
    all_goals repeat first | exact Below.refl _ _ | refine Below.setCell ?_ (by simp) _ | refine Below.alloc ?_ (by simp) _ | refine Below.drew ?_

set_option maxRecDepth 100000 in
set_option maxHeartbeats 1000000 in
theorem popen_tail (id : Int) (b : ByteArray) (w : World) (kind own next n sum : Nat) (hF : Fields b kind own next n sum) (h : ((own : Int) != id) = false) (h1 : ((kind : Int) == 0) = false) (h2 : n ≤ 240) (h3 : zeroB (b.extract (11 + n) 252).data.toList = false) :
    Calls Tryd.prog 25 #[.int .i64 id, .string b] w fun e w' => e = .returned (.tuple #[.agg #[.int .i64 0, .int .i64 0, .string ⟨#[]⟩], .int .i64 4]) ∧ Below w.heap.size w w' := by
  have hk := fun w => field_at b _ 0 1 0 1 w rfl rfl (by omega) (by omega) hF.size (by omega) hF.hkind
  have ho := fun w => field_at b _ 1 4 1 4 w rfl rfl (by omega) (by omega) hF.size (by omega) hF.hown
  have hn := fun w => field_at b _ 9 2 9 2 w rfl rfl (by omega) (by omega) hF.size (by omega) hF.hn
  have hx := fun w => field_at b _ 5 4 5 4 w rfl rfl (by omega) (by omega) hF.size (by omega) hF.hnext
  have hf := fun w => field_at b _ 252 4 252 4 w rfl rfl (by omega) (by omega) hF.size (by omega) hF.hsum
  have hc := fun g w => crc_cell (b.extract 0 252) g w (by have := hF.size; simp; omega)
  rw [hF.crc] at hc
  have hs : (b.size : Int) = 256 := by have := hF.size; omega
  have HF := Lib.hid hf
  have HC := Lib.hid hc
  have HK := Lib.hid hk
  have HO := Lib.hid ho
  have HN := Lib.hid hn
  have HX := Lib.hid hx
  have e2 : ((sum : Int) != (sum : Int)) = false := by simp
  clear hf hc hk ho hn hx
  have ht := fun w => trim_some (b.extract (11 + n) 252) w (by have := hF.size; simp; omega) h3
  have HT := Lib.hid ht
  clear hF HX ht h3
  go_enter Tryd.func25, Tryd.ntmps25
  go_wp2_with fail
  go_region_held3 (fun _ => True) (trivial) (first | (go_at_call 42; ((with_reducible refine (HF.out _).mono ?_)); rintro e w2 ⟨rfl, rfl⟩) | (go_at_call 39; ((with_reducible refine (HC.out _ _ (by go_simp)).mono ?_)); rintro e w3 ⟨rfl, rfl⟩))
  all_goals go_wp2_with (first | (go_at_call 42; first | ((with_reducible refine (HK.out _).mono ?_); rintro e w2 ⟨rfl, rfl⟩) | ((with_reducible refine (HO.out _).mono ?_); rintro e w2 ⟨rfl, rfl⟩) | ((with_reducible refine (HN.out _).mono ?_); rintro e w2 ⟨rfl, rfl⟩)) | (go_at_call 43; ((with_reducible refine (HT.out _).mono ?_)); rintro e w4 ⟨t, ht, rfl, k, rfl⟩; have ht2 : (!t.toList.isEmpty) = true := by simp [ht]))
  all_goals refine bodyPost_ret (v := .tuple #[.agg #[.int .i64 0, .int .i64 0, .string ⟨#[]⟩], .int .i64 4]) (by simp [results, Tryd.results25, go_sem]) rfl ⟨rfl, ?_⟩
  all_goals repeat first | exact Below.refl _ _ | refine Below.setCell ?_ (by simp) _ | refine Below.alloc ?_ (by simp) _ | refine below_drewN ?_ _ | refine Below.drew ?_

set_option maxRecDepth 100000 in
set_option maxHeartbeats 1000000 in
theorem popen_ok (id : Int) (b : ByteArray) (w : World) (kind own next n sum : Nat) (hF : Fields b kind own next n sum) (h : ((own : Int) != id) = false) (h1 : ((kind : Int) == 0) = false) (h2 : n ≤ 240) (h3 : zeroB (b.extract (11 + n) 252).data.toList = true) :
    Calls Tryd.prog 25 #[.int .i64 id, .string b] w fun e w' => e = .returned (.tuple #[.agg #[.int .i64 kind, .int .i64 next, .string (b.extract 11 (11 + n))], .int .i64 0]) ∧ Below w.heap.size w w' := by
  have hk := fun w => field_at b _ 0 1 0 1 w rfl rfl (by omega) (by omega) hF.size (by omega) hF.hkind
  have ho := fun w => field_at b _ 1 4 1 4 w rfl rfl (by omega) (by omega) hF.size (by omega) hF.hown
  have hn := fun w => field_at b _ 9 2 9 2 w rfl rfl (by omega) (by omega) hF.size (by omega) hF.hn
  have hx := fun w => field_at b _ 5 4 5 4 w rfl rfl (by omega) (by omega) hF.size (by omega) hF.hnext
  have hf := fun w => field_at b _ 252 4 252 4 w rfl rfl (by omega) (by omega) hF.size (by omega) hF.hsum
  have hc := fun g w => crc_cell (b.extract 0 252) g w (by have := hF.size; simp; omega)
  rw [hF.crc] at hc
  have hs : (b.size : Int) = 256 := by have := hF.size; omega
  have HF := Lib.hid hf
  have HC := Lib.hid hc
  have HK := Lib.hid hk
  have HO := Lib.hid ho
  have HN := Lib.hid hn
  have HX := Lib.hid hx
  have e2 : ((sum : Int) != (sum : Int)) = false := by simp
  clear hf hc hk ho hn hx
  have ht := fun w => trim_zero (b.extract (11 + n) 252) w (by have := hF.size; simp; omega) h3
  have HT := Lib.hid ht
  have hcl := fun w => tclone_any (b.extract 11 (11 + n)) (by have := hF.size; simp; omega) w
  have HCL := Lib.hid hcl
  clear hF ht h3 hcl
  go_enter Tryd.func25, Tryd.ntmps25
  go_wp2_with fail
  go_region_held3 (fun _ => True) (trivial) (first | (go_at_call 42; ((with_reducible refine (HF.out _).mono ?_)); rintro e w2 ⟨rfl, rfl⟩) | (go_at_call 39; ((with_reducible refine (HC.out _ _ (by go_simp)).mono ?_)); rintro e w3 ⟨rfl, rfl⟩))
  all_goals go_wp2_with (first | (go_at_call 42; first | ((with_reducible refine (HK.out _).mono ?_); rintro e w2 ⟨rfl, rfl⟩) | ((with_reducible refine (HO.out _).mono ?_); rintro e w2 ⟨rfl, rfl⟩) | ((with_reducible refine (HN.out _).mono ?_); rintro e w2 ⟨rfl, rfl⟩) | ((with_reducible refine (HX.out _).mono ?_); rintro e w2 ⟨rfl, rfl⟩)) | (go_at_call 43; ((with_reducible refine (HT.out _).mono ?_)); rintro e w4 ⟨rfl, k, rfl⟩))
  all_goals refine (HCL.out _).mono ?_
  all_goals rintro e w4 ⟨rfl, hb4⟩
  all_goals have q0 : w4.cell? ⟨w.heap.size, 0, none⟩ = some (.int .i64 0) := (hb4.cell (by simp; omega)).trans (by go_simp)
  all_goals have q1 : w4.cell? ⟨w.heap.size, 1, none⟩ = some (.int .i64 0) := (hb4.cell (by simp; omega)).trans (by go_simp)
  all_goals have q2 : w4.cell? ⟨w.heap.size, 2, none⟩ = some (.string ⟨#[]⟩) := (hb4.cell (by simp; omega)).trans (by go_simp)
  all_goals have f0 : w4.frozen? ⟨w.heap.size, 0, none⟩ = false := (hb4.frozen (by simp; omega)).trans (by go_simp)
  all_goals have f1 : w4.frozen? ⟨w.heap.size, 1, none⟩ = false := (hb4.frozen (by simp; omega)).trans (by go_simp)
  all_goals have f2 : w4.frozen? ⟨w.heap.size, 2, none⟩ = false := (hb4.frozen (by simp; omega)).trans (by go_simp)
  all_goals go_wp2_with fail
  all_goals refine (HX.out _).mono ?_
  all_goals rintro e w5 ⟨rfl, rfl⟩
  all_goals go_wp2_with fail
  all_goals have s0 := World.cell?_setCell_same w4 ⟨w.heap.size, 0, none⟩ (.int .i64 kind) q0
  all_goals have s1 := World.cell?_setCell_same (w4.setCell ⟨w.heap.size, 0, none⟩ (.int .i64 kind)) ⟨w.heap.size, 1, none⟩ (.int .i64 next) (show _ = some (.int .i64 0) by rw [World.cell?_setCell_other _ _ _ _ (by simp)]; exact q1)
  all_goals have s2 := World.cell?_setCell_same ((w4.setCell ⟨w.heap.size, 0, none⟩ (.int .i64 kind)).setCell ⟨w.heap.size, 1, none⟩ (.int .i64 next)) ⟨w.heap.size, 2, none⟩ (.string (b.extract 11 (11 + n))) (show _ = some (.string ⟨#[]⟩) by rw [World.cell?_setCell_other _ _ _ _ (by simp), World.cell?_setCell_other _ _ _ _ (by simp)]; exact q2)
  all_goals refine bodyPost_ret (v := .tuple #[.agg #[.int .i64 kind, .int .i64 next, .string (b.extract 11 (11 + n))], .int .i64 0]) (by simp [results, Tryd.results25, go_sem, s0, s1, s2]) rfl ⟨rfl, ?_⟩
  all_goals refine Below.setCell (Below.setCell (Below.setCell (Below.trans ?_ (hb4.mono (by simp; omega))) (by simp) _) (by simp) _) (by simp) _
  all_goals repeat first | exact Below.refl _ _ | refine Below.setCell ?_ (by simp) _ | refine Below.alloc ?_ (by simp) _ | refine below_drewN ?_ _ | refine Below.drew ?_

theorem fields_of (b : ByteArray) (h : b.size = 256) (hs : fld b.data.toList 252 4 = crcB (b.data.toList.take 252)) : Fields b (fld b.data.toList 0 1) (fld b.data.toList 1 4) (fld b.data.toList 5 4) (fld b.data.toList 9 2) (fld b.data.toList 252 4) :=
  ⟨h, rfl, rfl, rfl, rfl, rfl, by rw [hs]; congr 1; simp⟩

/-- Open, of any number and any bytes. -/
theorem open_any (id : Int) (b : ByteArray) (w : World) : Calls Tryd.prog 25 #[.int .i64 id, .string b] w fun e w' => e = .returned (openV id b.data.toList) ∧ Below w.heap.size w w' := by
  have hl : b.data.toList.length = b.size := by simp
  by_cases h : b.size = 256
  · have hx : (b.extract 0 252).data.toList = b.data.toList.take 252 := by simp
    by_cases h1 : fld b.data.toList 252 4 = crcB (b.data.toList.take 252)
    · have hF := fields_of b h h1
      by_cases h2 : (fld b.data.toList 1 4 : Int) ≠ id ∨ fld b.data.toList 0 1 = 0 ∨ 240 < fld b.data.toList 9 2
      · rw [openV_bad (open_form (hl.trans h) h1 h2) (by decide)]
        refine popen_form id b w _ _ _ _ _ hF ?_
        by_cases a : (fld b.data.toList 1 4 : Int) = id
        · refine .inr ?_
          by_cases c : fld b.data.toList 0 1 = 0
          · exact .inl ⟨by simpa using a, by simpa using c⟩
          · exact .inr ⟨by simpa using a, by simpa using c, by omega⟩
        · exact .inl (by simpa using a)
      · have a : (fld b.data.toList 1 4 : Int) = id := by omega
        have c : ¬ fld b.data.toList 0 1 = 0 := by omega
        have d : fld b.data.toList 9 2 ≤ 240 := by omega
        have ht : (b.extract (11 + fld b.data.toList 9 2) 252).data.toList = tailB b.data.toList := by
          unfold tailB
          rw [ByteArray.data_extract, Array.toList_extract, List.extract_eq_take_drop, List.drop_take]
        cases h3 : zeroB (tailB b.data.toList)
        · rw [openV_bad (open_tail (hl.trans h) h1 h2 h3) (by decide)]
          exact popen_tail id b w _ _ _ _ _ hF (by simpa using a) (by simpa using c) d (by rw [ht]; exact h3)
        · rw [openV_ok (open_ok (hl.trans h) h1 h2 h3)]
          have e : (⟨((b.data.toList.drop 11).take (fld b.data.toList 9 2)).toArray⟩ : ByteArray) = b.extract 11 (11 + fld b.data.toList 9 2) := by
            apply ByteArray.ext
            apply Array.ext'
            rw [ByteArray.data_extract, Array.toList_extract, List.extract_eq_take_drop]
            simp
          rw [e]
          exact popen_ok id b w _ _ _ _ _ hF (by simpa using a) (by simpa using c) d (by rw [ht]; exact h3)
    · rw [openV_bad (open_sum (hl.trans h) h1) (by decide)]
      exact popen_sum id b w h _ _ rfl rfl (by rw [hx]; exact h1)
  · rw [openV_bad (open_short (by rw [hl]; exact h)) (by decide)]
    exact popen_short id b w h
end Go.Proofs.YthcpjpebahiikaaDoor
