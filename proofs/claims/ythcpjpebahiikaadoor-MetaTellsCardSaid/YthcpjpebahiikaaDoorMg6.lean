/-
  Walks over package page, and the document's own: small words; the sum of one text. Walks over package page: Open. Walks over package page: Seal. Walks over the document's own answers to chapter 4: Seal. Walks over the document's own answers to chapter 4: Open.
-/
import Derived.Test.YthcpjpebahiikaaDoorMg5
import Derived.Test.YthcpjpebahiikaaDoorMg2
import Derived.Test.YthcpjpebahiikaaDoorMg1
import Derived.Deep.QuietTactic
import Derived.BigQuiet
import Derived.Deep.RegionHeld3
import Derived.StillTailTactics
namespace Go.Proofs.YthcpjpebahiikaaDoor
open Go.RowKit Go.Lib

theorem cat_data (a b : ByteArray) : (a ++ b).data.toList = a.data.toList ++ b.data.toList := by simp

theorem crc_cell (s : ByteArray) (g : Nat) (w : World) (hs : s.size ≤ 9223372036854775807) (hc : w.cell? ⟨g, 0, none⟩ = some (.string s)) :
    Calls Tryd.prog 39 #[.slice (some ⟨g, 0, none⟩) 1 1] w fun e w' => e = .returned (.int .i64 (crcB s.data.toList)) ∧ w = w' := by
  have hr : Reads1 w w.heap.size (.slice (some ⟨g, 0, none⟩) 1 1) ([s].map Value.string) := by
    refine ⟨_, _, rfl, fun _ => ⟨g, 0, rfl, World.block_lt_of_cell? w _ hc, fun j u hu => ?_⟩⟩
    match j, hu with
    | 0, hu => simp at hu; subst hu; exact hc
    | j + 1, hu => simp at hu
  have h := crc_any _ [s] _ hr (by simp) (by intro x hx; simp at hx; subst hx; exact hs)
  have e1 : flat [s] = s.data.toList := by simp [flat]
  rw [e1] at h
  exact h

set_option maxRecDepth 100000 in
set_option maxHeartbeats 400000 in
theorem field_any (s : ByteArray) (a n : Nat) (w : World) (h1 : 1 ≤ n) (h7 : n ≤ 7) (hs : s.size ≤ 9223372036854775807) (h : a + n ≤ s.size) :
    Calls Tryd.prog 42 #[.string s, .int .i64 a, .int .i64 n] w fun e w' => e = .returned (.int .i64 (fld s.data.toList a n)) ∧ w = w' := by
  have H := Lib.hid (fun w => unfix_ok s a n w h1 h7 hs h)
  clear h1 h7 hs h
  unfold fld
  go_enter Tryd.func42, Tryd.ntmps42
  go_wp2_with (go_at_call 44; refine (H.out _).mono ?_; rintro e w' ⟨rfl, rfl⟩)
  go_ret
  exact ⟨rfl, rfl⟩

/-- A field of a text of 256 bytes, at given places. -/
theorem field_at (s : ByteArray) (x : Nat) (i n : Int) (a k : Nat) (w : World) (hi : i = a) (hn : n = k) (h1 : 1 ≤ k) (h7 : k ≤ 7) (hs : s.size = 256) (h : a + k ≤ 256) (hx : fld s.data.toList a k = x) :
    Calls Tryd.prog 42 #[.string s, .int .i64 i, .int .i64 n] w fun e w' => e = .returned (.int .i64 x) ∧ w = w' := by
  subst hi hn hx
  exact field_any s a k w h1 h7 (by omega) (by omega)

theorem dropWhile_all {α : Type} (p : α → Bool) : ∀ l : List α, (∀ x ∈ l.dropWhile p, p x = true) → ∀ x ∈ l, p x = true
  | [], _ => by simp
  | a :: r, h => by
    by_cases ha : p a = true
    · rw [List.dropWhile_cons_of_pos ha] at h
      intro x hx
      rcases List.mem_cons.1 hx with rfl | hx
      · exact ha
      · exact dropWhile_all p r h x hx
    · rw [List.dropWhile_cons_of_neg ha] at h
      exact absurd (h a (by simp)) ha
theorem dropWhile_nil {α : Type} (p : α → Bool) (l : List α) : l.dropWhile p = [] ↔ ∀ x ∈ l, p x = true := by
  constructor
  · intro h
    exact dropWhile_all p l (by rw [h]; simp)
  · intro h
    induction l with
    | nil => rfl
    | cons a r ih => rw [List.dropWhile_cons_of_pos (h a (by simp))]; exact ih (fun x hx => h x (by simp [hx]))
theorem trimB_nil (l : List UInt8) : trimB l 0 = [] ↔ zeroB l = true := by
  unfold trimB trimLeftB trimRightB zeroB
  rw [dropWhile_nil, List.all_eq_true]
  constructor
  · intro h x hx
    exact dropWhile_all (fun c => c == 0) l.reverse (fun y hy => h y (by simpa using hy)) x (by simpa using hx)
  · intro h x hx
    exact h x (by have := (List.dropWhile_sublist _).subset (List.mem_reverse.1 hx); simpa using this)

set_option maxHeartbeats 400000 in
theorem trim_zero (s : ByteArray) (w : World) (hs : s.size ≤ 9223372036854775807) (h : zeroB s.data.toList = true) :
    Calls Tryd.prog 43 #[.string s, .string ⟨#[0]⟩] w fun e w' => e = .returned (.string ⟨#[]⟩) ∧ ∃ k, w' = w.drewN k := by
  have h1 := Tryd.strings_Trim_one s 0 (by decide) w hs
  rw [(trimB_nil _).2 h] at h1
  refine h1.mono ?_
  rintro e w' ⟨rfl, rfl | rfl⟩
  · exact ⟨rfl, 0, rfl⟩
  · exact ⟨rfl, 1, rfl⟩
theorem trim_some (s : ByteArray) (w : World) (hs : s.size ≤ 9223372036854775807) (h : zeroB s.data.toList = false) :
    Calls Tryd.prog 43 #[.string s, .string ⟨#[0]⟩] w fun e w' => ∃ t : ByteArray, t.toList.isEmpty = false ∧ e = .returned (.string t) ∧ ∃ k, w' = w.drewN k := by
  have h1 := Tryd.strings_Trim_one s 0 (by decide) w hs
  have h2 : trimB s.data.toList 0 ≠ [] := fun e => by rw [(trimB_nil _).1 e] at h; exact absurd h (by simp)
  refine h1.mono ?_
  have h3 : ByteArray.toList ⟨(trimB s.data.toList 0).toArray⟩ ≠ [] := by rw [ByteArray.toList_eq]; simpa using h2
  rintro e w' ⟨rfl, rfl | rfl⟩
  · exact ⟨_, by simpa using h3, rfl, 0, rfl⟩
  · exact ⟨_, by simpa using h3, rfl, 1, rfl⟩
end Go.Proofs.YthcpjpebahiikaaDoor

namespace Go.Proofs.YthcpjpebahiikaaDoor
open Go.RowKit Go.Lib

set_option maxRecDepth 100000 in
set_option maxHeartbeats 400000 in
theorem popen_short (id : Int) (b : ByteArray) (w : World) (h : b.size ≠ 256) :
    Calls Tryd.prog 25 #[.int .i64 id, .string b] w fun e w' => e = .returned (.tuple #[.agg #[.int .i64 0, .int .i64 0, .string ⟨#[]⟩], .int .i64 5]) ∧ Below w.heap.size w w' := by
  have e1 : ((b.size : Int) == 256) = false := beq_eq_false_iff_ne.2 (by omega)
  have e2 : ((b.size : Int) != 256) = true := by simp; omega
  go_enter Tryd.func25, Tryd.ntmps25
  go_wp2
  exact bodyPost_ret (v := .tuple #[.agg #[.int .i64 0, .int .i64 0, .string ⟨#[]⟩], .int .i64 5]) (by simp [results, Tryd.results25, go_sem]) rfl ⟨rfl, (Below.refl _ _).alloc (Nat.le_refl _) _⟩

set_option maxRecDepth 100000 in
set_option maxHeartbeats 400000 in
theorem popen_sum (id : Int) (b : ByteArray) (w : World) (h : b.size = 256) (x y : Nat) (hx : fld b.data.toList 252 4 = x) (hy : crcB (b.extract 0 252).data.toList = y) (hne : x ≠ y) :
    Calls Tryd.prog 25 #[.int .i64 id, .string b] w fun e w' => e = .returned (.tuple #[.agg #[.int .i64 0, .int .i64 0, .string ⟨#[]⟩], .int .i64 6]) ∧ Below w.heap.size w w' := by
  have hf := fun w => field_at b x 252 4 252 4 w rfl rfl (by omega) (by omega) h (by omega) hx
  have hc := fun g w => crc_cell (b.extract 0 252) g w (by simp; omega)
  rw [hy] at hc
  have HF := Lib.hid hf
  have HC := Lib.hid hc
  have hs : (b.size : Int) = 256 := by omega
  have e2 : ((x : Int) != (y : Int)) = true := by simp; omega
  clear hf hc hx hy hne
  go_enter Tryd.func25, Tryd.ntmps25
  go_wp2_with fail
  go_region_held3 (fun _ => True) (trivial) (first | (go_at_call 42; ((with_reducible refine (HF.out _).mono ?_)); rintro e w2 ⟨rfl, rfl⟩) | (go_at_call 39; ((with_reducible refine (HC.out _ _ (by go_simp)).mono ?_)); rintro e w3 ⟨rfl, rfl⟩))
  all_goals go_wp2
  all_goals refine bodyPost_ret (v := .tuple #[.agg #[.int .i64 0, .int .i64 0, .string ⟨#[]⟩], .int .i64 6]) (by simp [results, Tryd.results25, go_sem]) rfl ⟨rfl, ?_⟩
  all_goals repeat first | exact Below.refl _ _ | refine Below.setCell ?_ (by simp) _ | refine Below.alloc ?_ (by simp) _ | refine Below.drew ?_

/-- What a field's call gives at the five places. -/
structure Fields (b : ByteArray) (kind own next n sum : Nat) : Prop where
  size : b.size = 256
  hkind : fld b.data.toList 0 1 = kind
  hown : fld b.data.toList 1 4 = own
  hnext : fld b.data.toList 5 4 = next
  hn : fld b.data.toList 9 2 = n
  hsum : fld b.data.toList 252 4 = sum
  crc : crcB (b.extract 0 252).data.toList = sum

set_option maxRecDepth 100000 in
set_option maxHeartbeats 1000000 in
theorem popen_form (id : Int) (b : ByteArray) (w : World) (kind own next n sum : Nat) (hF : Fields b kind own next n sum) (h : ((own : Int) != id) = true ∨ ((own : Int) != id) = false ∧ ((kind : Int) == 0) = true ∨ ((own : Int) != id) = false ∧ ((kind : Int) == 0) = false ∧ 240 < n) :
    Calls Tryd.prog 25 #[.int .i64 id, .string b] w fun e w' => e = .returned (.tuple #[.agg #[.int .i64 0, .int .i64 0, .string ⟨#[]⟩], .int .i64 4]) ∧ Below w.heap.size w w' := by
  have hk := fun w => field_at b _ 0 1 0 1 w rfl rfl (by omega) (by omega) hF.size (by omega) hF.hkind
  have ho := fun w => field_at b _ 1 4 1 4 w rfl rfl (by omega) (by omega) hF.size (by omega) hF.hown
  have hn := fun w => field_at b _ 9 2 9 2 w rfl rfl (by omega) (by omega) hF.size (by omega) hF.hn
  have hx := fun w => field_at b _ 5 4 5 4 w rfl rfl (by omega) (by omega) hF.size (by omega) hF.hnext
  have hf := fun w => field_at b _ 252 4 252 4 w rfl rfl (by omega) (by omega) hF.size (by omega) hF.hsum
  have hc := fun g w => crc_cell (b.extract 0 252) g w (by have := hF.size; simp; omega)
  rw [hF.crc] at hc
  have hs : (b.size : Int) = 256 := by have := hF.size; omega
  have HF := Lib.hid hf
  have HC := Lib.hid hc
  have HK := Lib.hid hk
  have HO := Lib.hid ho
  have HN := Lib.hid hn
  have HX := Lib.hid hx
  have e2 : ((sum : Int) != (sum : Int)) = false := by simp
  clear hf hc hk ho hn hx
  clear hF HX
  rcases h with h | ⟨h, h1⟩ | ⟨h, h1, h2⟩
  all_goals
    go_enter Tryd.func25, Tryd.ntmps25
    go_wp2_with fail
    go_region_held3 (fun _ => True) (trivial) (first | (go_at_call 42; ((with_reducible refine (HF.out _).mono ?_)); rintro e w2 ⟨rfl, rfl⟩) | (go_at_call 39; ((with_reducible refine (HC.out _ _ (by go_simp)).mono ?_)); rintro e w3 ⟨rfl, rfl⟩))
    all_goals go_wp2_with (first | (go_at_call 42; first | ((with_reducible refine (HK.out _).mono ?_); rintro e w2 ⟨rfl, rfl⟩) | ((with_reducible refine (HO.out _).mono ?_); rintro e w2 ⟨rfl, rfl⟩) | ((with_reducible refine (HN.out _).mono ?_); rintro e w2 ⟨rfl, rfl⟩)))
    all_goals refine bodyPost_ret (v := .tuple #[.agg #[.int .i64 0, .int .i64 0, .string ⟨#[]⟩], .int .i64 4]) (by simp [results, Tryd.results25, go_sem]) rfl ⟨rfl, ?_⟩
    all_goals repeat first | exact Below.refl _ _ | refine Below.setCell ?_ (by simp) _ | refine Below.alloc ?_ (by simp) _ | refine Below.drew ?_

set_option maxRecDepth 100000 in
set_option maxHeartbeats 1000000 in
theorem popen_tail (id : Int) (b : ByteArray) (w : World) (kind own next n sum : Nat) (hF : Fields b kind own next n sum) (h : ((own : Int) != id) = false) (h1 : ((kind : Int) == 0) = false) (h2 : n ≤ 240) (h3 : zeroB (b.extract (11 + n) 252).data.toList = false) :
    Calls Tryd.prog 25 #[.int .i64 id, .string b] w fun e w' => e = .returned (.tuple #[.agg #[.int .i64 0, .int .i64 0, .string ⟨#[]⟩], .int .i64 4]) ∧ Below w.heap.size w w' := by
  have hk := fun w => field_at b _ 0 1 0 1 w rfl rfl (by omega) (by omega) hF.size (by omega) hF.hkind
  have ho := fun w => field_at b _ 1 4 1 4 w rfl rfl (by omega) (by omega) hF.size (by omega) hF.hown
  have hn := fun w => field_at b _ 9 2 9 2 w rfl rfl (by omega) (by omega) hF.size (by omega) hF.hn
  have hx := fun w => field_at b _ 5 4 5 4 w rfl rfl (by omega) (by omega) hF.size (by omega) hF.hnext
  have hf := fun w => field_at b _ 252 4 252 4 w rfl rfl (by omega) (by omega) hF.size (by omega) hF.hsum
  have hc := fun g w => crc_cell (b.extract 0 252) g w (by have := hF.size; simp; omega)
  rw [hF.crc] at hc
  have hs : (b.size : Int) = 256 := by have := hF.size; omega
  have HF := Lib.hid hf
  have HC := Lib.hid hc
  have HK := Lib.hid hk
  have HO := Lib.hid ho
  have HN := Lib.hid hn
  have HX := Lib.hid hx
  have e2 : ((sum : Int) != (sum : Int)) = false := by simp
  clear hf hc hk ho hn hx
  have ht := fun w => trim_some (b.extract (11 + n) 252) w (by have := hF.size; simp; omega) h3
  have HT := Lib.hid ht
  clear hF HX ht h3
  go_enter Tryd.func25, Tryd.ntmps25
  go_wp2_with fail
  go_region_held3 (fun _ => True) (trivial) (first | (go_at_call 42; ((with_reducible refine (HF.out _).mono ?_)); rintro e w2 ⟨rfl, rfl⟩) | (go_at_call 39; ((with_reducible refine (HC.out _ _ (by go_simp)).mono ?_)); rintro e w3 ⟨rfl, rfl⟩))
  all_goals go_wp2_with (first | (go_at_call 42; first | ((with_reducible refine (HK.out _).mono ?_); rintro e w2 ⟨rfl, rfl⟩) | ((with_reducible refine (HO.out _).mono ?_); rintro e w2 ⟨rfl, rfl⟩) | ((with_reducible refine (HN.out _).mono ?_); rintro e w2 ⟨rfl, rfl⟩)) | (go_at_call 43; ((with_reducible refine (HT.out _).mono ?_)); rintro e w4 ⟨t, ht, rfl, k, rfl⟩; have ht2 : (!t.toList.isEmpty) = true := by simp [ht]))
  all_goals refine bodyPost_ret (v := .tuple #[.agg #[.int .i64 0, .int .i64 0, .string ⟨#[]⟩], .int .i64 4]) (by simp [results, Tryd.results25, go_sem]) rfl ⟨rfl, ?_⟩
  all_goals repeat first | exact Below.refl _ _ | refine Below.setCell ?_ (by simp) _ | refine Below.alloc ?_ (by simp) _ | refine below_drewN ?_ _ | refine Below.drew ?_

set_option maxRecDepth 100000 in
set_option maxHeartbeats 1000000 in
theorem popen_ok (id : Int) (b : ByteArray) (w : World) (kind own next n sum : Nat) (hF : Fields b kind own next n sum) (h : ((own : Int) != id) = false) (h1 : ((kind : Int) == 0) = false) (h2 : n ≤ 240) (h3 : zeroB (b.extract (11 + n) 252).data.toList = true) :
    Calls Tryd.prog 25 #[.int .i64 id, .string b] w fun e w' => e = .returned (.tuple #[.agg #[.int .i64 kind, .int .i64 next, .string (b.extract 11 (11 + n))], .int .i64 0]) ∧ Below w.heap.size w w' := by
  have hk := fun w => field_at b _ 0 1 0 1 w rfl rfl (by omega) (by omega) hF.size (by omega) hF.hkind
  have ho := fun w => field_at b _ 1 4 1 4 w rfl rfl (by omega) (by omega) hF.size (by omega) hF.hown
  have hn := fun w => field_at b _ 9 2 9 2 w rfl rfl (by omega) (by omega) hF.size (by omega) hF.hn
  have hx := fun w => field_at b _ 5 4 5 4 w rfl rfl (by omega) (by omega) hF.size (by omega) hF.hnext
  have hf := fun w => field_at b _ 252 4 252 4 w rfl rfl (by omega) (by omega) hF.size (by omega) hF.hsum
  have hc := fun g w => crc_cell (b.extract 0 252) g w (by have := hF.size; simp; omega)
  rw [hF.crc] at hc
  have hs : (b.size : Int) = 256 := by have := hF.size; omega
  have HF := Lib.hid hf
  have HC := Lib.hid hc
  have HK := Lib.hid hk
  have HO := Lib.hid ho
  have HN := Lib.hid hn
  have HX := Lib.hid hx
  have e2 : ((sum : Int) != (sum : Int)) = false := by simp
  clear hf hc hk ho hn hx
  have ht := fun w => trim_zero (b.extract (11 + n) 252) w (by have := hF.size; simp; omega) h3
  have HT := Lib.hid ht
  have hcl := fun w => tclone_any (b.extract 11 (11 + n)) (by have := hF.size; simp; omega) w
  have HCL := Lib.hid hcl
  clear hF ht h3 hcl
  go_enter Tryd.func25, Tryd.ntmps25
  go_wp2_with fail
  go_region_held3 (fun _ => True) (trivial) (first | (go_at_call 42; ((with_reducible refine (HF.out _).mono ?_)); rintro e w2 ⟨rfl, rfl⟩) | (go_at_call 39; ((with_reducible refine (HC.out _ _ (by go_simp)).mono ?_)); rintro e w3 ⟨rfl, rfl⟩))
  all_goals go_wp2_with (first | (go_at_call 42; first | ((with_reducible refine (HK.out _).mono ?_); rintro e w2 ⟨rfl, rfl⟩) | ((with_reducible refine (HO.out _).mono ?_); rintro e w2 ⟨rfl, rfl⟩) | ((with_reducible refine (HN.out _).mono ?_); rintro e w2 ⟨rfl, rfl⟩) | ((with_reducible refine (HX.out _).mono ?_); rintro e w2 ⟨rfl, rfl⟩)) | (go_at_call 43; ((with_reducible refine (HT.out _).mono ?_)); rintro e w4 ⟨rfl, k, rfl⟩))
  all_goals refine (HCL.out _).mono ?_
  all_goals rintro e w4 ⟨rfl, hb4⟩
  all_goals have q0 : w4.cell? ⟨w.heap.size, 0, none⟩ = some (.int .i64 0) := (hb4.cell (by simp; omega)).trans (by go_simp)
  all_goals have q1 : w4.cell? ⟨w.heap.size, 1, none⟩ = some (.int .i64 0) := (hb4.cell (by simp; omega)).trans (by go_simp)
  all_goals have q2 : w4.cell? ⟨w.heap.size, 2, none⟩ = some (.string ⟨#[]⟩) := (hb4.cell (by simp; omega)).trans (by go_simp)
  all_goals have f0 : w4.frozen? ⟨w.heap.size, 0, none⟩ = false := (hb4.frozen (by simp; omega)).trans (by go_simp)
  all_goals have f1 : w4.frozen? ⟨w.heap.size, 1, none⟩ = false := (hb4.frozen (by simp; omega)).trans (by go_simp)
  all_goals have f2 : w4.frozen? ⟨w.heap.size, 2, none⟩ = false := (hb4.frozen (by simp; omega)).trans (by go_simp)
  all_goals go_wp2_with fail
  all_goals refine (HX.out _).mono ?_
  all_goals rintro e w5 ⟨rfl, rfl⟩
  all_goals go_wp2_with fail
  all_goals have s0 := World.cell?_setCell_same w4 ⟨w.heap.size, 0, none⟩ (.int .i64 kind) q0
  all_goals have s1 := World.cell?_setCell_same (w4.setCell ⟨w.heap.size, 0, none⟩ (.int .i64 kind)) ⟨w.heap.size, 1, none⟩ (.int .i64 next) (show _ = some (.int .i64 0) by rw [World.cell?_setCell_other _ _ _ _ (by simp)]; exact q1)
  all_goals have s2 := World.cell?_setCell_same ((w4.setCell ⟨w.heap.size, 0, none⟩ (.int .i64 kind)).setCell ⟨w.heap.size, 1, none⟩ (.int .i64 next)) ⟨w.heap.size, 2, none⟩ (.string (b.extract 11 (11 + n))) (show _ = some (.string ⟨#[]⟩) by rw [World.cell?_setCell_other _ _ _ _ (by simp), World.cell?_setCell_other _ _ _ _ (by simp)]; exact q2)
  all_goals refine bodyPost_ret (v := .tuple #[.agg #[.int .i64 kind, .int .i64 next, .string (b.extract 11 (11 + n))], .int .i64 0]) (by simp [results, Tryd.results25, go_sem, s0, s1, s2]) rfl ⟨rfl, ?_⟩
  all_goals refine Below.setCell (Below.setCell (Below.setCell (Below.trans ?_ (hb4.mono (by simp; omega))) (by simp) _) (by simp) _) (by simp) _
  all_goals repeat first | exact Below.refl _ _ | refine Below.setCell ?_ (by simp) _ | refine Below.alloc ?_ (by simp) _ | refine below_drewN ?_ _ | refine Below.drew ?_

theorem fields_of (b : ByteArray) (h : b.size = 256) (hs : fld b.data.toList 252 4 = crcB (b.data.toList.take 252)) : Fields b (fld b.data.toList 0 1) (fld b.data.toList 1 4) (fld b.data.toList 5 4) (fld b.data.toList 9 2) (fld b.data.toList 252 4) :=
  ⟨h, rfl, rfl, rfl, rfl, rfl, by rw [hs]; congr 1; simp⟩

/-- Open, of any number and any bytes. -/
theorem open_any (id : Int) (b : ByteArray) (w : World) : Calls Tryd.prog 25 #[.int .i64 id, .string b] w fun e w' => e = .returned (openV id b.data.toList) ∧ Below w.heap.size w w' := by
  have hl : b.data.toList.length = b.size := by simp
  by_cases h : b.size = 256
  · have hx : (b.extract 0 252).data.toList = b.data.toList.take 252 := by simp
    by_cases h1 : fld b.data.toList 252 4 = crcB (b.data.toList.take 252)
    · have hF := fields_of b h h1
      by_cases h2 : (fld b.data.toList 1 4 : Int) ≠ id ∨ fld b.data.toList 0 1 = 0 ∨ 240 < fld b.data.toList 9 2
      · rw [openV_bad (open_form (hl.trans h) h1 h2) (by decide)]
        refine popen_form id b w _ _ _ _ _ hF ?_
        by_cases a : (fld b.data.toList 1 4 : Int) = id
        · refine .inr ?_
          by_cases c : fld b.data.toList 0 1 = 0
          · exact .inl ⟨by simpa using a, by simpa using c⟩
          · exact .inr ⟨by simpa using a, by simpa using c, by omega⟩
        · exact .inl (by simpa using a)
      · have a : (fld b.data.toList 1 4 : Int) = id := by omega
        have c : ¬ fld b.data.toList 0 1 = 0 := by omega
        have d : fld b.data.toList 9 2 ≤ 240 := by omega
        have ht : (b.extract (11 + fld b.data.toList 9 2) 252).data.toList = tailB b.data.toList := by
          unfold tailB
          rw [ByteArray.data_extract, Array.toList_extract, List.extract_eq_take_drop, List.drop_take]
        cases h3 : zeroB (tailB b.data.toList)
        · rw [openV_bad (open_tail (hl.trans h) h1 h2 h3) (by decide)]
          exact popen_tail id b w _ _ _ _ _ hF (by simpa using a) (by simpa using c) d (by rw [ht]; exact h3)
        · rw [openV_ok (open_ok (hl.trans h) h1 h2 h3)]
          have e : (⟨((b.data.toList.drop 11).take (fld b.data.toList 9 2)).toArray⟩ : ByteArray) = b.extract 11 (11 + fld b.data.toList 9 2) := by
            apply ByteArray.ext
            apply Array.ext'
            rw [ByteArray.data_extract, Array.toList_extract, List.extract_eq_take_drop]
            simp
          rw [e]
          exact popen_ok id b w _ _ _ _ _ hF (by simpa using a) (by simpa using c) d (by rw [ht]; exact h3)
    · rw [openV_bad (open_sum (hl.trans h) h1) (by decide)]
      exact popen_sum id b w h _ _ rfl rfl (by rw [hx]; exact h1)
  · rw [openV_bad (open_short (by rw [hl]; exact h)) (by decide)]
    exact popen_short id b w h
end Go.Proofs.YthcpjpebahiikaaDoor

namespace Go.Proofs.YthcpjpebahiikaaDoor
open Go.RowKit Go.Lib

/-- Fix, its error told. -/
theorem fix_at (v n E : Int) (w : World) (hv : v ≤ 9223372036854775807) (h : fixE v n = E) :
    Calls Tryd.prog 21 #[.int .i64 v, .int .i64 n] w fun e w' => e = .returned (.tuple #[.string ⟨(fixB v n).toArray⟩, .int .i64 E]) ∧ Below w.heap.size w w' := by
  subst h
  exact fix_any v n w hv
theorem fix_fit (v n : Nat) (w : World) (x : ByteArray) (h1 : 1 ≤ n) (h7 : n ≤ 7) (hv : v ≤ 9223372036854775807) (hb : v < 2 ^ (8 * n)) (hx : (⟨(leb n v).toArray⟩ : ByteArray) = x) :
    Calls Tryd.prog 21 #[.int .i64 v, .int .i64 n] w fun e w' => e = .returned (.tuple #[.string x, .int .i64 0]) ∧ Below w.heap.size w w' := by
  subst hx
  exact fix_ok v n w h1 h7 hv hb

set_option maxRecDepth 100000 in
set_option maxHeartbeats 1000000 in
theorem pseal_bad (id kind next : Int) (s : ByteArray) (w : World) (hi : IsInt id) (hk : IsInt kind) (hn : IsInt next) (E1 E2 E3 : Int) (e1 : fixE kind 1 = E1) (e2 : fixE id 4 = E2) (e3 : fixE next 4 = E3)
    (h : (kind == 0) = true ∨ (kind == 0) = false ∧ (E1 != 0) = true ∨ (kind == 0) = false ∧ (E1 != 0) = false ∧ (E2 != 0) = true ∨ (kind == 0) = false ∧ (E1 != 0) = false ∧ (E2 != 0) = false ∧ (E3 != 0) = true) :
    Calls Tryd.prog 22 #[.int .i64 id, .agg #[.int .i64 kind, .int .i64 next, .string s]] w fun e w' => e = .returned (.tuple #[.string ⟨#[]⟩, .int .i64 1]) ∧ Below w.heap.size w w' := by
  have h1 := fun w => fix_at kind 1 E1 w hk.2 e1
  have h2 := fun w => fix_at id 4 E2 w hi.2 e2
  have h3 := fun w => fix_at next 4 E3 w hn.2 e3
  have H1 := Lib.hid h1
  have H2 := Lib.hid h2
  have H3 := Lib.hid h3
  clear h1 h2 h3 e1 e2 e3 hi hk hn
  rcases h with h | ⟨h, ha⟩ | ⟨h, ha, hb⟩ | ⟨h, ha, hb, hc⟩
  all_goals
    go_enter Tryd.func22, Tryd.ntmps22
    go_wp2_with fail
    refine (H1.out _).mono ?_
    rintro e w1 ⟨rfl, hb1⟩
    have hs1 := hb1.size
    have hH : Has w1 w.heap.size 50 #[.int .i64 kind, .int .i64 next, .string s] := (Has.made w 50 _).below hb1 (by simp)
    have q0 : w1.cell? ⟨w.heap.size, 0, none⟩ = some (.int .i64 kind) := hH.cell 0
    have q1 : w1.cell? ⟨w.heap.size, 1, none⟩ = some (.int .i64 next) := hH.cell 1
    go_wp2_with fail
    refine (H2.out _).mono ?_
    rintro e w2 ⟨rfl, hb2⟩
    have hs2 := hb2.size
    have hH2 := hH.below hb2 hH.inside
    have r0 : w2.cell? ⟨w.heap.size, 0, none⟩ = some (.int .i64 kind) := hH2.cell 0
    have r1 : w2.cell? ⟨w.heap.size, 1, none⟩ = some (.int .i64 next) := hH2.cell 1
    go_wp2_with fail
    refine (H3.out _).mono ?_
    rintro e w3 ⟨rfl, hb3⟩
    have hH3 := hH2.below hb3 hH2.inside
    have t0 : w3.cell? ⟨w.heap.size, 0, none⟩ = some (.int .i64 kind) := hH3.cell 0
    go_wp2_with fail
    go_ret2
    simp at hs1
    exact ⟨rfl, (((Below.refl _ _).alloc (Nat.le_refl _) _).trans (hb1.mono (by simp))).trans ((hb2.mono (by omega)).trans (hb3.mono (by omega)))⟩

set_option maxRecDepth 100000 in
set_option maxHeartbeats 2000000 in
theorem pseal_fit (id kind next : Nat) (s : ByteArray) (w : World) (hi : id < 4294967296) (hn : next < 4294967296) (hk0 : 0 < kind) (hk : kind < 256) (hs0 : s.size ≤ 9223372036854775807) :
    Calls Tryd.prog 22 #[.int .i64 id, .agg #[.int .i64 kind, .int .i64 next, .string s]] w fun e w' => e = .returned (.tuple #[.string ⟨(if s.size ≤ 240 then pageB kind id next s.data.toList else []).toArray⟩, .int .i64 (if s.size ≤ 240 then 0 else 2)]) ∧ Below w.heap.size w w' := by
  obtain ⟨K, hK⟩ : ∃ K : ByteArray, (⟨(leb 1 kind).toArray⟩ : ByteArray) = K := ⟨_, rfl⟩
  obtain ⟨I, hI⟩ : ∃ K : ByteArray, (⟨(leb 4 id).toArray⟩ : ByteArray) = K := ⟨_, rfl⟩
  obtain ⟨N, hN⟩ : ∃ K : ByteArray, (⟨(leb 4 next).toArray⟩ : ByteArray) = K := ⟨_, rfl⟩
  have h1 := fun w => fix_fit kind 1 w K (by omega) (by omega) (by omega) (by omega) hK
  have h2 := fun w => fix_fit id 4 w I (by omega) (by omega) (by omega) (by omega) hI
  have h3 := fun w => fix_fit next 4 w N (by omega) (by omega) (by omega) (by omega) hN
  have k1 : K.data.toList = leb 1 kind := by rw [← hK]
  have k2 : I.data.toList = leb 4 id := by rw [← hI]
  have k3 : N.data.toList = leb 4 next := by rw [← hN]
  have z1 : K.size = 1 := by have := congrArg List.length k1; rw [leb_length] at this; simpa using this
  have z2 : I.size = 4 := by have := congrArg List.length k2; rw [leb_length] at this; simpa using this
  have z3 : N.size = 4 := by have := congrArg List.length k3; rw [leb_length] at this; simpa using this
  have e1 : ((kind : Int) == 0) = false := beq_eq_false_iff_ne.2 (by omega)
  have H1 := Lib.hid h1
  have H2 := Lib.hid h2
  have H3 := Lib.hid h3
  have HK := Lib.hid k1
  have HI := Lib.hid k2
  have HN := Lib.hid k3
  have HZ := Lib.hid (And.intro z1 (And.intro z2 z3))
  clear h1 h2 h3 k1 k2 k3 z1 z2 z3 hK hI hN hi hn hk hk0
  by_cases hl : s.size ≤ 240
  · have hl2 : ¬ 240 < (s.size : Int) := by omega
    rw [if_pos hl, if_pos hl]
    obtain ⟨Z, hZ⟩ : ∃ K : ByteArray, (⟨(leb 2 s.size).toArray⟩ : ByteArray) = K := ⟨_, rfl⟩
    obtain ⟨R, hR⟩ : ∃ K : ByteArray, (⟨(Lib.repeatL (⟨#[0]⟩ : ByteArray).data.toList (241 - s.size)).toArray⟩ : ByteArray) = K := ⟨_, rfl⟩
    have h4 := fun w => fix_fit s.size 2 w Z (by omega) (by omega) (by omega) (by omega) hZ
    have h5 := fun w => Tryd.strings_Repeat ⟨#[0]⟩ (241 - s.size) w (by omega) (by show 1 * _ ≤ _; omega)
    rw [hR, show ((241 - s.size : Nat) : Int) = 241 - (s.size : Int) by omega] at h5
    have k4 : Z.data.toList = leb 2 s.size := by rw [← hZ]
    have z4 : Z.size = 2 := by have := congrArg List.length k4; rw [leb_length] at this; simpa using this
    have k5 : R.data.toList = List.replicate (241 - s.size) 0 := by
      rw [← hR]
      show Lib.repeatL [0] _ = _
      generalize 241 - s.size = c
      induction c with
      | zero => rfl
      | succ c ih => rw [Lib.repeatL, ih]; rfl
    have z5 : R.size = 241 - s.size := by have := congrArg List.length k5; simpa using this
    have hB : (K ++ I ++ N ++ Z ++ s ++ R).data.toList = bodyB kind id next s.data.toList := by
      simp only [cat_data, HK.out, HI.out, HN.out, k4, k5, bodyB, headB, List.append_assoc]
      simp
    have hBz : (K ++ I ++ N ++ Z ++ s ++ R).size = 252 := by
      have := HZ.out
      simp
      omega
    have H4 := Lib.hid h4
    have H5 := Lib.hid h5
    have HB := Lib.hid hB
    have HBZ := Lib.hid hBz
    have HZ4 := Lib.hid (And.intro z4 z5)
    clear h4 h5 k4 k5 z4 z5 hB hBz hZ hR
    go_enter Tryd.func22, Tryd.ntmps22
    go_wp2_with fail
    refine (H1.out _).mono ?_
    rintro e w1 ⟨rfl, hb1⟩
    have hs1 := hb1.size
    have hH : Has w1 w.heap.size 50 #[.int .i64 kind, .int .i64 next, .string s] := (Has.made w 50 _).below hb1 (by simp)
    have q0 : w1.cell? ⟨w.heap.size, 0, none⟩ = some (.int .i64 kind) := hH.cell 0
    have q1 : w1.cell? ⟨w.heap.size, 1, none⟩ = some (.int .i64 next) := hH.cell 1
    go_wp2_with fail
    refine (H2.out _).mono ?_
    rintro e w2 ⟨rfl, hb2⟩
    have hs2 := hb2.size
    have hH2 := hH.below hb2 hH.inside
    have r0 : w2.cell? ⟨w.heap.size, 0, none⟩ = some (.int .i64 kind) := hH2.cell 0
    have r1 : w2.cell? ⟨w.heap.size, 1, none⟩ = some (.int .i64 next) := hH2.cell 1
    go_wp2_with fail
    refine (H3.out _).mono ?_
    rintro e w3 ⟨rfl, hb3⟩
    have hs3 := hb3.size
    have hH3 := hH2.below hb3 hH2.inside
    have t0 : w3.cell? ⟨w.heap.size, 0, none⟩ = some (.int .i64 kind) := hH3.cell 0
    have t2 : w3.cell? ⟨w.heap.size, 2, none⟩ = some (.string s) := hH3.cell 2
    go_wp2_with fail
    refine (H4.out _).mono ?_
    rintro e w4 ⟨rfl, hb4⟩
    have hs4 := hb4.size
    have hH4 := hH3.below hb4 hH3.inside
    have u2 : w4.cell? ⟨w.heap.size, 2, none⟩ = some (.string s) := hH4.cell 2
    go_wp2_with fail
    refine (H5.out _).mono ?_
    rintro e w5 ⟨rfl, hb5⟩
    have hs5 := hb5.size
    have hH5 := hH4.below hb5 hH4.inside
    have v2 : w5.cell? ⟨w.heap.size, 2, none⟩ = some (.string s) := hH5.cell 2
    have m1 : ¬ 9223372036854775807 < K.size + I.size := by have := HZ.out; omega
    have m2 : ¬ 9223372036854775807 < K.size + I.size + N.size := by have := HZ.out; omega
    have m3 : ¬ 9223372036854775807 < K.size + I.size + N.size + Z.size := by have := HZ.out; have := HZ4.out; omega
    have m4 : ¬ 9223372036854775807 < K.size + I.size + N.size + Z.size + s.size := by have := HZ.out; have := HZ4.out; omega
    have m5 : ¬ 9223372036854775807 < K.size + I.size + N.size + Z.size + s.size + R.size := by have := HZ.out; have := HZ4.out; omega
    go_wp2_with fail
    clear m1 m2 m3 m4 m5 HZ HZ4
    generalize K ++ I ++ N ++ Z ++ s ++ R = B at *
    refine (crc_cell B _ _ (by rw [HBZ.out]; decide) (by go_simp)).mono ?_
    rintro e w6 ⟨rfl, rfl⟩
    rw [HB.out]
    have hlt := crcB_lt (bodyB kind id next s.data.toList)
    obtain ⟨C, hC⟩ : ∃ K : ByteArray, (⟨(leb 4 (crcB (bodyB kind id next s.data.toList))).toArray⟩ : ByteArray) = K := ⟨_, rfl⟩
    have h6 := fun w => fix_fit _ 4 w C (by omega) (by omega) (by omega) (by omega) hC
    have hBC : B ++ C = ⟨(pageB kind id next s.data.toList).toArray⟩ := by
      apply ByteArray.ext
      apply Array.ext'
      rw [cat_data, HB.out, ← hC]
      simp [pageB]
    have hm : ¬ 9223372036854775807 < B.size + C.size := by
      have e : C.size = 4 := by rw [← hC]; show Array.size _ = 4; simp [leb_length]
      have := HBZ.out
      omega
    generalize crcB (bodyB kind id next s.data.toList) = x at *
    have H6 := Lib.hid h6
    have HBC := Lib.hid hBC
    clear h6 hBC hC
    go_wp2_with fail
    refine (H6.out _).mono ?_
    rintro e w7 ⟨rfl, hb7⟩
    go_wp2_with fail
    rw [HBC.out]
    go_ret2
    simp at hs1
    have hb5' : Below w.heap.size w w5 := (((Below.refl _ _).alloc (Nat.le_refl _) _).trans (hb1.mono (by simp))).trans ((hb2.mono (by omega)).trans ((hb3.mono (by omega)).trans ((hb4.mono (by omega)).trans (hb5.mono (by omega)))))
    exact ⟨rfl, (hb5'.alloc hb5'.size _).trans (hb7.mono (by simp; omega))⟩
  · have hl2 : 240 < (s.size : Int) := by omega
    rw [if_neg hl, if_neg hl]
    go_enter Tryd.func22, Tryd.ntmps22
    go_wp2_with fail
    refine (H1.out _).mono ?_
    rintro e w1 ⟨rfl, hb1⟩
    have hs1 := hb1.size
    have hH : Has w1 w.heap.size 50 #[.int .i64 kind, .int .i64 next, .string s] := (Has.made w 50 _).below hb1 (by simp)
    have q0 : w1.cell? ⟨w.heap.size, 0, none⟩ = some (.int .i64 kind) := hH.cell 0
    have q1 : w1.cell? ⟨w.heap.size, 1, none⟩ = some (.int .i64 next) := hH.cell 1
    go_wp2_with fail
    refine (H2.out _).mono ?_
    rintro e w2 ⟨rfl, hb2⟩
    have hs2 := hb2.size
    have hH2 := hH.below hb2 hH.inside
    have r0 : w2.cell? ⟨w.heap.size, 0, none⟩ = some (.int .i64 kind) := hH2.cell 0
    have r1 : w2.cell? ⟨w.heap.size, 1, none⟩ = some (.int .i64 next) := hH2.cell 1
    go_wp2_with fail
    refine (H3.out _).mono ?_
    rintro e w3 ⟨rfl, hb3⟩
    have hH3 := hH2.below hb3 hH2.inside
    have t0 : w3.cell? ⟨w.heap.size, 0, none⟩ = some (.int .i64 kind) := hH3.cell 0
    have t2 : w3.cell? ⟨w.heap.size, 2, none⟩ = some (.string s) := hH3.cell 2
    go_wp2_with fail
    go_ret2
    simp at hs1
    exact ⟨rfl, (((Below.refl _ _).alloc (Nat.le_refl _) _).trans (hb1.mono (by simp))).trans ((hb2.mono (by omega)).trans (hb3.mono (by omega)))⟩

theorem fixE_fit {v n : Int} (h : 0 ≤ v ∧ v < 2 ^ (8 * n.toNat)) (h1 : 1 ≤ n) (h7 : n ≤ 7) : fixE v n = 0 := by rw [fixE, if_pos ⟨h1, h7, h.1, h.2⟩]
theorem fixE_not {v n : Int} (h : ¬ (0 ≤ v ∧ v < 2 ^ (8 * n.toNat))) : fixE v n = 1 := by rw [fixE, if_neg (fun h' => h ⟨h'.2.2.1, h'.2.2.2⟩)]

/-- Seal, of any number and any content. -/
theorem seal_any (id kind next : Int) (s : ByteArray) (w : World) (hi : IsInt id) (hk : IsInt kind) (hn : IsInt next) (hs : s.size ≤ 9223372036854775807) :
    Calls Tryd.prog 22 #[.int .i64 id, .agg #[.int .i64 kind, .int .i64 next, .string s]] w fun e w' => e = .returned (.tuple #[.string ⟨(sealB id kind next s.data.toList).toArray⟩, .int .i64 (sealE id kind next s.size)]) ∧ Below w.heap.size w w' := by
  have hl : s.data.toList.length = s.size := by simp
  have p1 : (2 : Int) ^ (8 * (1 : Int).toNat) = 256 := by decide
  have p4 : (2 : Int) ^ (8 * (4 : Int).toNat) = 4294967296 := by decide
  by_cases h : SealOK id kind next
  · have h' := h
    obtain ⟨a, b, c, d, f, g⟩ := h'
    obtain ⟨i, rfl⟩ : ∃ i : Nat, id = i := ⟨id.toNat, by omega⟩
    obtain ⟨k, rfl⟩ : ∃ i : Nat, kind = i := ⟨kind.toNat, by omega⟩
    obtain ⟨n, rfl⟩ : ∃ i : Nat, next = i := ⟨next.toNat, by omega⟩
    have r := pseal_fit i k n s w (by omega) (by omega) (by omega) (by omega) hs
    unfold sealB sealE
    rw [hl, if_pos h]
    simp only [h, true_and, Int.toNat_natCast]
    exact r
  · unfold sealB sealE
    rw [if_neg h, if_neg (fun x => h x.1)]
    refine pseal_bad id kind next s w hi hk hn _ _ _ rfl rfl rfl ?_
    by_cases a : kind = 0
    · exact .inl (by simpa using a)
    · refine .inr ?_
      by_cases b : 0 ≤ kind ∧ kind < 2 ^ (8 * (1 : Int).toNat)
      · refine .inr ?_
        have b' := b
        rw [p1] at b'
        by_cases c : 0 ≤ id ∧ id < 2 ^ (8 * (4 : Int).toNat)
        · refine .inr ⟨by simpa using a, by rw [fixE_fit b (by omega) (by omega)]; rfl, by rw [fixE_fit c (by omega) (by omega)]; rfl, ?_⟩
          rw [p4] at c
          rw [fixE_not (by rw [p4]; intro d; exact h ⟨c.1, c.2, d.1, d.2, by omega, b'.2⟩)]
          rfl
        · exact .inl ⟨by simpa using a, by rw [fixE_fit b (by omega) (by omega)]; rfl, by rw [fixE_not c]; rfl⟩
      · exact .inl ⟨by simpa using a, by rw [fixE_not b]; rfl⟩
end Go.Proofs.YthcpjpebahiikaaDoor

namespace Go.Proofs.YthcpjpebahiikaaDoor
open Go.RowKit Go.Lib

theorem reffix_fit (v : Nat) (m : Int) (n : Nat) (w : World) (x : ByteArray) (hm : m = n) (h1 : 1 ≤ n) (h7 : n ≤ 7) (hv : v ≤ 9223372036854775807) (hb : v < 2 ^ (8 * n)) (hx : (⟨(leb n v).toArray⟩ : ByteArray) = x) :
    Calls Tryd.prog 40 #[.int .i64 v, .int .i64 m] w fun e w' => e = .returned (.string x) ∧ Below w.heap.size w w' := by
  subst hx hm
  have h := fun w => refFix_nat v n w h1 h7 hv
  simp only [if_pos hb] at h
  have H := Lib.hid h
  clear h hb
  go_enter Tryd.func40, Tryd.ntmps40
  go_wp2_with (go_at_call 23; ((with_reducible refine (H.out _).mono ?_)); rintro e w' ⟨rfl, hb⟩)
  go_ret
  exact ⟨rfl, hb⟩

set_option maxRecDepth 100000 in
set_option maxHeartbeats 1000000 in
theorem rseal_bad (id kind next : Int) (s : ByteArray) (w : World)
    (h : id < 0 ∨ ¬ id < 0 ∧ 4294967295 < id ∨ ¬ id < 0 ∧ ¬ 4294967295 < id ∧ next < 0 ∨ ¬ id < 0 ∧ ¬ 4294967295 < id ∧ ¬ next < 0 ∧ 4294967295 < next ∨ ¬ id < 0 ∧ ¬ 4294967295 < id ∧ ¬ next < 0 ∧ ¬ 4294967295 < next ∧ kind < 1 ∨ ¬ id < 0 ∧ ¬ 4294967295 < id ∧ ¬ next < 0 ∧ ¬ 4294967295 < next ∧ ¬ kind < 1 ∧ 255 < kind) :
    Calls Tryd.prog 24 #[.int .i64 id, .agg #[.int .i64 kind, .int .i64 next, .string s]] w fun e w' => e = .returned (.tuple #[.string ⟨#[]⟩, .int .i64 1]) ∧ Below w.heap.size w w' := by
  rcases h with h | ⟨h1, h⟩ | ⟨h1, h2, h⟩ | ⟨h1, h2, h3, h⟩ | ⟨h1, h2, h3, h4, h⟩ | ⟨h1, h2, h3, h4, h5, h⟩
  all_goals
    go_enter Tryd.func24, Tryd.ntmps24
    go_wp2_with fail
    go_ret2
    exact ⟨rfl, (Below.refl _ _).alloc (Nat.le_refl _) _⟩

set_option maxRecDepth 100000 in
set_option maxHeartbeats 2000000 in
theorem rseal_fit (id kind next : Nat) (s : ByteArray) (w : World) (hi : id < 4294967296) (hn : next < 4294967296) (hk0 : 0 < kind) (hk : kind < 256) (hs0 : s.size ≤ 9223372036854775807) :
    Calls Tryd.prog 24 #[.int .i64 id, .agg #[.int .i64 kind, .int .i64 next, .string s]] w fun e w' => e = .returned (.tuple #[.string ⟨(if s.size ≤ 240 then pageB kind id next s.data.toList else []).toArray⟩, .int .i64 (if s.size ≤ 240 then 0 else 2)]) ∧ Below w.heap.size w w' := by
  obtain ⟨K, hK⟩ : ∃ K : ByteArray, (⟨(leb 1 kind).toArray⟩ : ByteArray) = K := ⟨_, rfl⟩
  obtain ⟨I, hI⟩ : ∃ K : ByteArray, (⟨(leb 4 id).toArray⟩ : ByteArray) = K := ⟨_, rfl⟩
  obtain ⟨N, hN⟩ : ∃ K : ByteArray, (⟨(leb 4 next).toArray⟩ : ByteArray) = K := ⟨_, rfl⟩
  have h1 := fun w => reffix_fit kind 1 1 w K rfl (by omega) (by omega) (by omega) (by omega) hK
  have h2 := fun w => reffix_fit id 4 4 w I rfl (by omega) (by omega) (by omega) (by omega) hI
  have h3 := fun w => reffix_fit next 4 4 w N rfl (by omega) (by omega) (by omega) (by omega) hN
  have k1 : K.data.toList = leb 1 kind := by rw [← hK]
  have k2 : I.data.toList = leb 4 id := by rw [← hI]
  have k3 : N.data.toList = leb 4 next := by rw [← hN]
  have z1 : K.size = 1 := by have := congrArg List.length k1; rw [leb_length] at this; simpa using this
  have z2 : I.size = 4 := by have := congrArg List.length k2; rw [leb_length] at this; simpa using this
  have z3 : N.size = 4 := by have := congrArg List.length k3; rw [leb_length] at this; simpa using this
  have g1 : ¬ 4294967295 < (id : Int) := by omega
  have g2 : ¬ 4294967295 < (next : Int) := by omega
  have g3 : ¬ (kind : Int) < 1 := by omega
  have g4 : ¬ 255 < (kind : Int) := by omega
  have g5 : ¬ (id : Int) < 0 := by omega
  have g6 : ¬ (next : Int) < 0 := by omega
  have H1 := Lib.hid h1
  have H2 := Lib.hid h2
  have H3 := Lib.hid h3
  have HK := Lib.hid k1
  have HI := Lib.hid k2
  have HN := Lib.hid k3
  have HZ := Lib.hid (And.intro z1 (And.intro z2 z3))
  clear h1 h2 h3 k1 k2 k3 z1 z2 z3 hK hI hN hi hn hk hk0
  by_cases hl : s.size ≤ 240
  · have hl2 : ¬ 240 < (s.size : Int) := by omega
    rw [if_pos hl, if_pos hl]
    obtain ⟨Z, hZ⟩ : ∃ K : ByteArray, (⟨(leb 2 s.size).toArray⟩ : ByteArray) = K := ⟨_, rfl⟩
    have h4 := fun w => reffix_fit s.size 2 2 w Z rfl (by omega) (by omega) (by omega) (by omega) hZ
    have k4 : Z.data.toList = leb 2 s.size := by rw [← hZ]
    have z4 : Z.size = 2 := by have := congrArg List.length k4; rw [leb_length] at this; simpa using this
    have hB : (K ++ I ++ N ++ Z ++ s).data.toList = headB kind id next s.size ++ s.data.toList := by
      simp only [cat_data, HK.out, HI.out, HN.out, k4, headB, List.append_assoc]
    have hBz : (K ++ I ++ N ++ Z ++ s).size = 11 + s.size := by
      have := HZ.out
      simp
      omega
    have H4 := Lib.hid h4
    have HB := Lib.hid hB
    have HBZ := Lib.hid hBz
    have m1 : ¬ 9223372036854775807 < K.size + I.size := by have := HZ.out; omega
    have m2 : ¬ 9223372036854775807 < K.size + I.size + N.size := by have := HZ.out; omega
    have m3 : ¬ 9223372036854775807 < K.size + I.size + N.size + Z.size := by have := HZ.out; omega
    have m4 : ¬ 9223372036854775807 < K.size + I.size + N.size + Z.size + s.size := by have := HZ.out; omega
    clear h4 k4 z4 hB hBz hZ
    go_enter Tryd.func24, Tryd.ntmps24
    go_wp2_with fail
    have hH : Has (w.alloc (.cells #[.int .i64 kind, .int .i64 next, .string s] 50)) w.heap.size 50 #[.int .i64 kind, .int .i64 next, .string s] := Has.made w 50 _
    have hB0 : Below w.heap.size w (w.alloc (.cells #[.int .i64 kind, .int .i64 next, .string s] 50)) := (Below.refl _ _).alloc (Nat.le_refl _) _
    have hz0 : (w.alloc (.cells #[.int .i64 kind, .int .i64 next, .string s] 50)).heap.size = w.heap.size + 1 := by simp
    generalize w.alloc (.cells #[.int .i64 kind, .int .i64 next, .string s] 50) = W0 at *
    have hS : ∀ W, Below W0.heap.size W0 W → W.cell? ⟨w.heap.size, 0, none⟩ = some (.int .i64 kind) ∧ W.cell? ⟨w.heap.size, 1, none⟩ = some (.int .i64 next) ∧ W.cell? ⟨w.heap.size, 2, none⟩ = some (.string s) :=
      fun W h => ⟨(hH.below h hH.inside).cell 0, (hH.below h hH.inside).cell 1, (hH.below h hH.inside).cell 2⟩
    have HS := Lib.hid hS
    have HB0 := Lib.hid (Below.refl W0.heap.size W0)
    have HZ0 := Lib.hid hz0
    have HW0 := Lib.hid hB0
    clear hS hz0 hH hB0
    go_region_held3 (fun w' => Below W0.heap.size W0 w' ∧ w'.cell? ⟨w.heap.size, 0, none⟩ = some (.int .i64 kind) ∧ w'.cell? ⟨w.heap.size, 1, none⟩ = some (.int .i64 next) ∧ w'.cell? ⟨w.heap.size, 2, none⟩ = some (.string s)) (first | exact ⟨hb4', HS.out _ hb4'⟩ | exact ⟨hb3', HS.out _ hb3'⟩ | exact ⟨hb3'.drew, HS.out _ hb3'.drew⟩ | exact ⟨hb2', HS.out _ hb2'⟩ | exact ⟨hb2'.drew, HS.out _ hb2'.drew⟩ | exact ⟨hb1', HS.out _ hb1'⟩ | exact ⟨hb1'.drew, HS.out _ hb1'.drew⟩ | exact ⟨HB0.out, HS.out _ HB0.out⟩ | exact ⟨HB0.out.drew, HS.out _ HB0.out.drew⟩ | fail) (first | (go_at_call 40; first | ((with_reducible refine (H1.out _).mono ?_); rintro e w1 ⟨rfl, hb1⟩; have hb1' : Below W0.heap.size W0 w1 := by first | exact (Below.refl W0.heap.size W0).trans (hb1.mono (Below.refl W0.heap.size W0).size) | exact (Below.refl W0.heap.size W0).drew.trans (hb1.mono (Below.refl W0.heap.size W0).size)) | ((with_reducible refine (H2.out _).mono ?_); rintro e w2 ⟨rfl, hb2⟩; have hb2' : Below W0.heap.size W0 w2 := by first | exact hb1'.trans (hb2.mono hb1'.size) | exact hb1'.drew.trans (hb2.mono hb1'.size)) | ((with_reducible refine (H3.out _).mono ?_); rintro e w3 ⟨rfl, hb3⟩; have hb3' : Below W0.heap.size W0 w3 := by first | exact hb2'.trans (hb3.mono hb2'.size) | exact hb2'.drew.trans (hb3.mono hb2'.size)) | ((with_reducible refine (H4.out _).mono ?_); rintro e w4 ⟨rfl, hb4⟩; have hb4' : Below W0.heap.size W0 w4 := by first | exact hb3'.trans (hb4.mono hb3'.size) | exact hb3'.drew.trans (hb4.mono hb3'.size))))
    clear m1 m2 m3 m4 HZ
    generalize K ++ I ++ N ++ Z ++ s = B at *
    have hc : 252 - (B.size : Int) = ((241 - s.size : Nat) : Int) := by rw [HBZ.out]; omega
    obtain ⟨c, hcc⟩ : ∃ c : Nat, 241 - s.size = c := ⟨_, rfl⟩
    rw [hcc] at hc
    have HC1 := Lib.hid hc
    have hc2 : wrap64 (252 - (B.size : Int)) = (c : Int) := by rw [← hc]; have := HBZ.out; unfold wrap64; omega
    have HC2 := Lib.hid hc2
    clear hc hc2
    have HCC := Lib.hid hcc
    have hcm : c ≤ 241 := by omega
    have mB : ¬ 9223372036854775807 < B.size + c := by have := HBZ.out; omega
    clear hcc
    go_wp2_with (at_make; refine make_bytes _ rfl _ _ rfl c (by first | exact congrArg (Value.int .i64) HC1.out | exact congrArg (Value.int .i64) HC2.out) (by first | exact congrArg (Value.int .i64) HC1.out | exact congrArg (Value.int .i64) HC2.out) (by omega) ?_; intro w5 hrow hb5; have hstr := row_string hrow)
    have hT : (B ++ ⟨Array.replicate c 0⟩ : ByteArray).data.toList = bodyB kind id next s.data.toList := by
      rw [cat_data, HB.out, ← HCC.out]
      simp [bodyB]
    have hTz : (B ++ ⟨Array.replicate c 0⟩ : ByteArray).size = 252 := by
      have := HBZ.out
      have e : (⟨Array.replicate c 0⟩ : ByteArray).size = c := by show Array.size _ = c; simp
      have := HCC.out
      simp [e]
      omega
    generalize (B ++ ⟨Array.replicate c 0⟩ : ByteArray) = T at *
    refine (refCrc_any T _ (by omega)).mono ?_
    rintro e w6 ⟨rfl, rfl⟩
    rw [hT]
    have hlt := crcB_lt (bodyB kind id next s.data.toList)
    obtain ⟨C, hC⟩ : ∃ K : ByteArray, (⟨(leb 4 (crcB (bodyB kind id next s.data.toList))).toArray⟩ : ByteArray) = K := ⟨_, rfl⟩
    have h6 := fun w => reffix_fit _ 4 4 w C rfl (by omega) (by omega) (by omega) (by omega) hC
    have hBC : T ++ C = ⟨(pageB kind id next s.data.toList).toArray⟩ := by
      apply ByteArray.ext
      apply Array.ext'
      rw [cat_data, hT, ← hC]
      simp [pageB]
    have hm : ¬ 9223372036854775807 < T.size + C.size := by
      have e : C.size = 4 := by rw [← hC]; show Array.size _ = 4; simp [leb_length]
      omega
    generalize crcB (bodyB kind id next s.data.toList) = x at *
    have H6 := Lib.hid h6
    have HBC := Lib.hid hBC
    have HB1 := Lib.hid hb1'
    have hs4 := hb4'.size
    have hs5 := hb5.size
    clear h6 hBC hC hT hTz hstr
    go_wp2_with fail
    refine (H6.out _).mono ?_
    rintro e w7 ⟨rfl, hb7⟩
    go_wp2_with fail
    rw [HBC.out]
    go_ret2
    have hz := HZ0.out
    exact ⟨rfl, HW0.out.trans ((hb4'.mono (by omega)).trans ((hb5.mono (by omega)).trans (hb7.mono (by omega))))⟩
  · have hl2 : 240 < (s.size : Int) := by omega
    rw [if_neg hl, if_neg hl]
    go_enter Tryd.func24, Tryd.ntmps24
    go_wp2_with fail
    go_ret2
    exact ⟨rfl, (Below.refl _ _).alloc (Nat.le_refl _) _⟩

/-- The document's own Seal, of any number and any content. -/
theorem refSeal_any (id kind next : Int) (s : ByteArray) (w : World) (hs : s.size ≤ 9223372036854775807) :
    Calls Tryd.prog 24 #[.int .i64 id, .agg #[.int .i64 kind, .int .i64 next, .string s]] w fun e w' => e = .returned (.tuple #[.string ⟨(sealB id kind next s.data.toList).toArray⟩, .int .i64 (sealE id kind next s.size)]) ∧ Below w.heap.size w w' := by
  have hl : s.data.toList.length = s.size := by simp
  by_cases h : SealOK id kind next
  · have h' := h
    obtain ⟨a, b, c, d, f, g⟩ := h'
    obtain ⟨i, rfl⟩ : ∃ i : Nat, id = i := ⟨id.toNat, by omega⟩
    obtain ⟨k, rfl⟩ : ∃ i : Nat, kind = i := ⟨kind.toNat, by omega⟩
    obtain ⟨n, rfl⟩ : ∃ i : Nat, next = i := ⟨next.toNat, by omega⟩
    have r := rseal_fit i k n s w (by omega) (by omega) (by omega) (by omega) hs
    unfold sealB sealE
    rw [hl, if_pos h]
    simp only [h, true_and, Int.toNat_natCast]
    exact r
  · unfold sealB sealE
    rw [if_neg h, if_neg (fun x => h x.1)]
    refine rseal_bad id kind next s w ?_
    unfold SealOK at h
    omega
end Go.Proofs.YthcpjpebahiikaaDoor

namespace Go.Proofs.YthcpjpebahiikaaDoor
open Go.RowKit Go.Lib

theorem rfield_at (s : ByteArray) (x : Nat) (i n : Int) (a k : Nat) (w : World) (hi : i = a) (hn : n = k) (h1 : 1 ≤ k) (h7 : k ≤ 7) (hs : s.size = 256) (h : a + k ≤ 256) (hx : fld s.data.toList a k = x) :
    Calls Tryd.prog 28 #[.string s, .int .i64 i, .int .i64 n] w fun e w' => e = .returned (.tuple #[.int .i64 x, .int .i64 0]) ∧ w = w' := by
  subst hi hn hx
  exact refUnfix_ok s a k w h1 h7 (by omega) (by omega)

theorem sum_cmp (b : ByteArray) (y : Nat) (h : b.size = 256) (hy : y < 4294967296) : ((⟨(leb 4 y).toArray⟩ : ByteArray).toList == (b.extract 252 256).toList) = decide (fld b.data.toList 252 4 = y) := by
  have hl : b.data.toList.length = 256 := by rw [← h]; simp
  have e1 : (⟨(leb 4 y).toArray⟩ : ByteArray).toList = leb 4 y := by rw [ByteArray.toList_eq]
  have e2 : (b.extract 252 256).toList = (b.data.toList.drop 252).take 4 := by rw [ByteArray.toList_eq, ByteArray.data_extract, Array.toList_extract, List.extract_eq_take_drop]
  rw [e1, e2, Bool.eq_iff_iff, beq_iff_eq, decide_eq_true_iff]
  constructor
  · intro e
    show unleb _ = y
    rw [← e]
    exact unleb_leb 4 y hy
  · intro e
    refine unleb_inj (by rw [leb_length]; simp; omega) ?_
    rw [unleb_leb 4 y hy]
    exact e.symm

set_option maxRecDepth 100000 in
set_option maxHeartbeats 400000 in
theorem ropen_short (id : Int) (b : ByteArray) (w : World) (h : b.size ≠ 256) :
    Calls Tryd.prog 27 #[.int .i64 id, .string b] w fun e w' => e = .returned (.tuple #[.agg #[.int .i64 0, .int .i64 0, .string ⟨#[]⟩], .int .i64 5]) ∧ Below w.heap.size w w' := by
  have e1 : ((b.size : Int) == 256) = false := beq_eq_false_iff_ne.2 (by omega)
  have e2 : ((b.size : Int) != 256) = true := by simp; omega
  go_enter Tryd.func27, Tryd.ntmps27
  go_wp2
  exact bodyPost_ret (v := .tuple #[.agg #[.int .i64 0, .int .i64 0, .string ⟨#[]⟩], .int .i64 5]) (by simp [results, Tryd.results27, go_sem]) rfl ⟨rfl, (Below.refl _ _).alloc (Nat.le_refl _) _⟩

set_option maxRecDepth 100000 in
set_option maxHeartbeats 400000 in
theorem ropen_sum (id : Int) (b : ByteArray) (w : World) (h : b.size = 256) (hne : fld b.data.toList 252 4 ≠ crcB (b.extract 0 252).data.toList) :
    Calls Tryd.prog 27 #[.int .i64 id, .string b] w fun e w' => e = .returned (.tuple #[.agg #[.int .i64 0, .int .i64 0, .string ⟨#[]⟩], .int .i64 6]) ∧ Below w.heap.size w w' := by
  have hc := fun w => refCrc_any (b.extract 0 252) w (by simp; omega)
  have hlt := crcB_lt (b.extract 0 252).data.toList
  generalize crcB (b.extract 0 252).data.toList = y at *
  have hcmp := sum_cmp b y h hlt
  rw [decide_eq_false hne] at hcmp
  obtain ⟨C, hC⟩ : ∃ K : ByteArray, (⟨(leb 4 y).toArray⟩ : ByteArray) = K := ⟨_, rfl⟩
  have hf := fun w => reffix_fit y 4 4 w C rfl (by omega) (by omega) (by omega) (by omega) hC
  rw [hC] at hcmp
  have hs : (b.size : Int) = 256 := by omega
  have HF := Lib.hid hf
  have HC := Lib.hid hc
  clear hf hc hne hC
  go_enter Tryd.func27, Tryd.ntmps27
  go_wp2_with fail
  go_region_held3 (fun _ => True) (trivial) (first | (go_at_call 41; ((with_reducible refine (HC.out _).mono ?_)); rintro e w2 ⟨rfl, rfl⟩) | (go_at_call 40; ((with_reducible refine (HF.out _).mono ?_)); rintro e w3 ⟨rfl, hb3⟩))
  have q0 : w3.cell? ⟨w.heap.size, 0, none⟩ = some (.int .i64 0) := (hb3.cell (by simp)).trans (by go_simp)
  have q1 : w3.cell? ⟨w.heap.size, 1, none⟩ = some (.int .i64 0) := (hb3.cell (by simp)).trans (by go_simp)
  have q2 : w3.cell? ⟨w.heap.size, 2, none⟩ = some (.string ⟨#[]⟩) := (hb3.cell (by simp)).trans (by go_simp)
  have f0 : w3.frozen? ⟨w.heap.size, 0, none⟩ = false := (hb3.frozen (by simp)).trans (by go_simp)
  have f1 : w3.frozen? ⟨w.heap.size, 1, none⟩ = false := (hb3.frozen (by simp)).trans (by go_simp)
  have f2 : w3.frozen? ⟨w.heap.size, 2, none⟩ = false := (hb3.frozen (by simp)).trans (by go_simp)
  go_wp2_with fail
  refine bodyPost_ret (v := .tuple #[.agg #[.int .i64 0, .int .i64 0, .string ⟨#[]⟩], .int .i64 6]) (by simp [results, Tryd.results27, go_sem, q0, q1, q2]) rfl ⟨rfl, ?_⟩
  refine Below.setCell (Below.setCell (Below.setCell (Below.trans ?_ (hb3.mono (by simp))) (by simp) _) (by simp) _) (by simp) _
  repeat first | exact Below.refl _ _ | refine Below.alloc ?_ (by simp) _ | refine Below.drew ?_

set_option maxRecDepth 100000 in
set_option maxHeartbeats 1000000 in
theorem ropen_form (id : Int) (b : ByteArray) (w : World) (kind own next n : Nat) (h : b.size = 256) (hF : fld b.data.toList 0 1 = kind ∧ fld b.data.toList 1 4 = own ∧ fld b.data.toList 5 4 = next ∧ fld b.data.toList 9 2 = n) (hsum : fld b.data.toList 252 4 = crcB (b.extract 0 252).data.toList)
    (hbad : ((own : Int) != id) = true ∨ ((own : Int) != id) = false ∧ ((kind : Int) == 0) = true ∨ ((own : Int) != id) = false ∧ ((kind : Int) == 0) = false ∧ 240 < n) :
    Calls Tryd.prog 27 #[.int .i64 id, .string b] w fun e w' => e = .returned (.tuple #[.agg #[.int .i64 0, .int .i64 0, .string ⟨#[]⟩], .int .i64 4]) ∧ Below w.heap.size w w' := by
  have hk := fun w => rfield_at b _ 0 1 0 1 w rfl rfl (by omega) (by omega) h (by omega) hF.1
  have ho := fun w => rfield_at b _ 1 4 1 4 w rfl rfl (by omega) (by omega) h (by omega) hF.2.1
  have hx := fun w => rfield_at b _ 5 4 5 4 w rfl rfl (by omega) (by omega) h (by omega) hF.2.2.1
  have hn := fun w => rfield_at b _ 9 2 9 2 w rfl rfl (by omega) (by omega) h (by omega) hF.2.2.2
  have hc := fun w => refCrc_any (b.extract 0 252) w (by simp; omega)
  have hlt := crcB_lt (b.extract 0 252).data.toList
  generalize crcB (b.extract 0 252).data.toList = y at *
  have hcmp := sum_cmp b y h hlt
  rw [decide_eq_true hsum] at hcmp
  obtain ⟨C, hC⟩ : ∃ K : ByteArray, (⟨(leb 4 y).toArray⟩ : ByteArray) = K := ⟨_, rfl⟩
  have hf := fun w => reffix_fit y 4 4 w C rfl (by omega) (by omega) (by omega) (by omega) hC
  rw [hC] at hcmp
  have hs : (b.size : Int) = 256 := by omega
  have HF := Lib.hid hf
  have HC := Lib.hid hc
  have HK := Lib.hid hk
  have HO := Lib.hid ho
  have HX := Lib.hid hx
  have HN := Lib.hid hn
  clear hf hc hC hk ho hx hn hF hsum
  rcases hbad with hm | ⟨hm, h1⟩ | ⟨hm, h1, h2⟩
  all_goals
    go_enter Tryd.func27, Tryd.ntmps27
    go_wp2_with fail
    go_region_held3 (fun _ => True) (trivial) (first | (go_at_call 41; ((with_reducible refine (HC.out _).mono ?_)); rintro e w2 ⟨rfl, rfl⟩) | (go_at_call 40; ((with_reducible refine (HF.out _).mono ?_)); rintro e w3 ⟨rfl, hb3⟩))
    have q0 : w3.cell? ⟨w.heap.size, 0, none⟩ = some (.int .i64 0) := (hb3.cell (by simp)).trans (by go_simp)
    have q1 : w3.cell? ⟨w.heap.size, 1, none⟩ = some (.int .i64 0) := (hb3.cell (by simp)).trans (by go_simp)
    have q2 : w3.cell? ⟨w.heap.size, 2, none⟩ = some (.string ⟨#[]⟩) := (hb3.cell (by simp)).trans (by go_simp)
    have f0 : w3.frozen? ⟨w.heap.size, 0, none⟩ = false := (hb3.frozen (by simp)).trans (by go_simp)
    have f1 : w3.frozen? ⟨w.heap.size, 1, none⟩ = false := (hb3.frozen (by simp)).trans (by go_simp)
    have f2 : w3.frozen? ⟨w.heap.size, 2, none⟩ = false := (hb3.frozen (by simp)).trans (by go_simp)
    have hB3 : Below w.heap.size w w3 := by
      refine Below.trans ?_ (hb3.mono (by simp))
      repeat first | exact Below.refl _ _ | refine Below.alloc ?_ (by simp) _ | refine Below.drew ?_
    have HB3 := Lib.hid hB3
    clear hb3 hB3
    go_wp2_with (go_at_call 28; first | ((with_reducible refine (HK.out _).mono ?_); rintro e w2 ⟨rfl, rfl⟩) | ((with_reducible refine (HO.out _).mono ?_); rintro e w2 ⟨rfl, rfl⟩) | ((with_reducible refine (HN.out _).mono ?_); rintro e w2 ⟨rfl, rfl⟩) | ((with_reducible refine (HX.out _).mono ?_); rintro e w2 ⟨rfl, rfl⟩))
    refine bodyPost_ret (v := .tuple #[.agg #[.int .i64 0, .int .i64 0, .string ⟨#[]⟩], .int .i64 4]) (by simp [results, Tryd.results27, go_sem, q0, q1, q2]) rfl ⟨rfl, ?_⟩
    exact Below.setCell (Below.setCell (Below.setCell HB3.out (by simp) _) (by simp) _) (by simp) _

set_option maxRecDepth 100000 in
set_option maxHeartbeats 1000000 in
theorem ropen_zero (id : Int) (b : ByteArray) (w : World) (kind own next n : Nat) (h : b.size = 256) (hF : fld b.data.toList 0 1 = kind ∧ fld b.data.toList 1 4 = own ∧ fld b.data.toList 5 4 = next ∧ fld b.data.toList 9 2 = n) (hsum : fld b.data.toList 252 4 = crcB (b.extract 0 252).data.toList)
    (hm : ((own : Int) != id) = false) (h1 : ((kind : Int) == 0) = false) (h2 : n ≤ 240) (hz : ∀ (j : Nat) (hj : j < b.size), 11 + n ≤ j → j < 252 → b[j] = 0) :
    Calls Tryd.prog 27 #[.int .i64 id, .string b] w fun e w' => e = .returned (.tuple #[.agg #[.int .i64 kind, .int .i64 next, .string (b.extract 11 (11 + n))], .int .i64 0]) ∧ Below w.heap.size w w' := by
  have hk := fun w => rfield_at b _ 0 1 0 1 w rfl rfl (by omega) (by omega) h (by omega) hF.1
  have ho := fun w => rfield_at b _ 1 4 1 4 w rfl rfl (by omega) (by omega) h (by omega) hF.2.1
  have hx := fun w => rfield_at b _ 5 4 5 4 w rfl rfl (by omega) (by omega) h (by omega) hF.2.2.1
  have hn := fun w => rfield_at b _ 9 2 9 2 w rfl rfl (by omega) (by omega) h (by omega) hF.2.2.2
  have hc := fun w => refCrc_any (b.extract 0 252) w (by simp; omega)
  have hlt := crcB_lt (b.extract 0 252).data.toList
  generalize crcB (b.extract 0 252).data.toList = y at *
  have hcmp := sum_cmp b y h hlt
  rw [decide_eq_true hsum] at hcmp
  obtain ⟨C, hC⟩ : ∃ K : ByteArray, (⟨(leb 4 y).toArray⟩ : ByteArray) = K := ⟨_, rfl⟩
  have hf := fun w => reffix_fit y 4 4 w C rfl (by omega) (by omega) (by omega) (by omega) hC
  rw [hC] at hcmp
  have hs : (b.size : Int) = 256 := by omega
  have HF := Lib.hid hf
  have HC := Lib.hid hc
  have HK := Lib.hid hk
  have HO := Lib.hid ho
  have HX := Lib.hid hx
  have HN := Lib.hid hn
  clear hf hc hC hk ho hx hn hF hsum
  have HZ := Lib.hid hz
  clear hz
  go_enter Tryd.func27, Tryd.ntmps27
  go_wp2_with fail
  go_region_held3 (fun _ => True) (trivial) (first | (go_at_call 41; ((with_reducible refine (HC.out _).mono ?_)); rintro e w2 ⟨rfl, rfl⟩) | (go_at_call 40; ((with_reducible refine (HF.out _).mono ?_)); rintro e w3 ⟨rfl, hb3⟩))
  have q0 : w3.cell? ⟨w.heap.size, 0, none⟩ = some (.int .i64 0) := (hb3.cell (by simp)).trans (by go_simp)
  have q1 : w3.cell? ⟨w.heap.size, 1, none⟩ = some (.int .i64 0) := (hb3.cell (by simp)).trans (by go_simp)
  have q2 : w3.cell? ⟨w.heap.size, 2, none⟩ = some (.string ⟨#[]⟩) := (hb3.cell (by simp)).trans (by go_simp)
  have f0 : w3.frozen? ⟨w.heap.size, 0, none⟩ = false := (hb3.frozen (by simp)).trans (by go_simp)
  have f1 : w3.frozen? ⟨w.heap.size, 1, none⟩ = false := (hb3.frozen (by simp)).trans (by go_simp)
  have f2 : w3.frozen? ⟨w.heap.size, 2, none⟩ = false := (hb3.frozen (by simp)).trans (by go_simp)
  have hB3 : Below w.heap.size w w3 := by
    refine Below.trans ?_ (hb3.mono (by simp))
    repeat first | exact Below.refl _ _ | refine Below.alloc ?_ (by simp) _ | refine Below.drew ?_
  have HB3 := Lib.hid hB3
  clear hb3 hB3
  go_wp2_with (go_at_call 28; first | ((with_reducible refine (HK.out _).mono ?_); rintro e w2 ⟨rfl, rfl⟩) | ((with_reducible refine (HO.out _).mono ?_); rintro e w2 ⟨rfl, rfl⟩) | ((with_reducible refine (HN.out _).mono ?_); rintro e w2 ⟨rfl, rfl⟩) | ((with_reducible refine (HX.out _).mono ?_); rintro e w2 ⟨rfl, rfl⟩))
  go_loop [14] (fun i => ∃ k : Nat, 11 + n ≤ k ∧ k ≤ 252 ∧ i = .int .i64 k ∧ Hid (∀ (j : Nat) (hj : j < b.size), 11 + n ≤ j → j < k → b[j] = 0)) (fun i => 252 - (RowKit.intOf i).toNat)
  case atStart => exact ⟨11 + n, Nat.le_refl _, by omega, by go_num, fun j _ ha hb => absurd hb (by omega)⟩
  case round =>
    obtain ⟨k, hk1, hk2, rfl, HA⟩ := hrel
    by_cases hlt : k < 252
    · have hkb : k < b.size := by omega
      have hz : b[k] = 0 := HZ.out k hkb hk1 hlt
      have e1 : ((b[k].toNat : Int) != 0) = false := by rw [hz]; rfl
      have HZK := Lib.hid hz
      clear hz
      go_wp2_with fail
      go_round
      case rel => exact ⟨k + 1, by omega, by omega, by go_num, fun j hj ha hb => by
        by_cases e : j = k
        · subst e; exact HZK.out
        · exact HA.out j hj ha (by omega)⟩
      case measure => simp [RowKit.intOf]; omega
    · go_wp2_with fail
      have s0 := World.cell?_setCell_same w3 ⟨w.heap.size, 0, none⟩ (.int .i64 kind) q0
      have s1 := World.cell?_setCell_same (w3.setCell ⟨w.heap.size, 0, none⟩ (.int .i64 kind)) ⟨w.heap.size, 1, none⟩ (.int .i64 next) (show _ = some (.int .i64 0) by rw [World.cell?_setCell_other _ _ _ _ (by simp)]; exact q1)
      have s2 := World.cell?_setCell_same ((w3.setCell ⟨w.heap.size, 0, none⟩ (.int .i64 kind)).setCell ⟨w.heap.size, 1, none⟩ (.int .i64 next)) ⟨w.heap.size, 2, none⟩ (.string (b.extract 11 (11 + n))) (show _ = some (.string ⟨#[]⟩) by rw [World.cell?_setCell_other _ _ _ _ (by simp), World.cell?_setCell_other _ _ _ _ (by simp)]; exact q2)
      refine bodyPost_ret (v := .tuple #[.agg #[.int .i64 kind, .int .i64 next, .string (b.extract 11 (11 + n))], .int .i64 0]) (by simp [results, Tryd.results27, go_sem, s0, s1, s2]) rfl ⟨rfl, ?_⟩
      exact Below.setCell (Below.setCell (Below.setCell HB3.out (by simp) _) (by simp) _) (by simp) _

set_option maxRecDepth 100000 in
set_option maxHeartbeats 1000000 in
theorem ropen_tail (id : Int) (b : ByteArray) (w : World) (kind own next n : Nat) (h : b.size = 256) (hF : fld b.data.toList 0 1 = kind ∧ fld b.data.toList 1 4 = own ∧ fld b.data.toList 5 4 = next ∧ fld b.data.toList 9 2 = n) (hsum : fld b.data.toList 252 4 = crcB (b.extract 0 252).data.toList)
    (hm : ((own : Int) != id) = false) (h1 : ((kind : Int) == 0) = false) (h2 : n ≤ 240) (j0 : Nat) (hj0 : j0 < b.size) (ha0 : 11 + n ≤ j0) (hb0 : j0 < 252) (hz : ¬ b[j0] = 0) :
    Calls Tryd.prog 27 #[.int .i64 id, .string b] w fun e w' => e = .returned (.tuple #[.agg #[.int .i64 0, .int .i64 0, .string ⟨#[]⟩], .int .i64 4]) ∧ Below w.heap.size w w' := by
  have hk := fun w => rfield_at b _ 0 1 0 1 w rfl rfl (by omega) (by omega) h (by omega) hF.1
  have ho := fun w => rfield_at b _ 1 4 1 4 w rfl rfl (by omega) (by omega) h (by omega) hF.2.1
  have hx := fun w => rfield_at b _ 5 4 5 4 w rfl rfl (by omega) (by omega) h (by omega) hF.2.2.1
  have hn := fun w => rfield_at b _ 9 2 9 2 w rfl rfl (by omega) (by omega) h (by omega) hF.2.2.2
  have hc := fun w => refCrc_any (b.extract 0 252) w (by simp; omega)
  have hlt := crcB_lt (b.extract 0 252).data.toList
  generalize crcB (b.extract 0 252).data.toList = y at *
  have hcmp := sum_cmp b y h hlt
  rw [decide_eq_true hsum] at hcmp
  obtain ⟨C, hC⟩ : ∃ K : ByteArray, (⟨(leb 4 y).toArray⟩ : ByteArray) = K := ⟨_, rfl⟩
  have hf := fun w => reffix_fit y 4 4 w C rfl (by omega) (by omega) (by omega) (by omega) hC
  rw [hC] at hcmp
  have hs : (b.size : Int) = 256 := by omega
  have HF := Lib.hid hf
  have HC := Lib.hid hc
  have HK := Lib.hid hk
  have HO := Lib.hid ho
  have HX := Lib.hid hx
  have HN := Lib.hid hn
  clear hf hc hC hk ho hx hn hF hsum
  have HZ := Lib.hid (show ¬ b[j0] = 0 from hz)
  clear hz
  go_enter Tryd.func27, Tryd.ntmps27
  go_wp2_with fail
  go_region_held3 (fun _ => True) (trivial) (first | (go_at_call 41; ((with_reducible refine (HC.out _).mono ?_)); rintro e w2 ⟨rfl, rfl⟩) | (go_at_call 40; ((with_reducible refine (HF.out _).mono ?_)); rintro e w3 ⟨rfl, hb3⟩))
  have q0 : w3.cell? ⟨w.heap.size, 0, none⟩ = some (.int .i64 0) := (hb3.cell (by simp)).trans (by go_simp)
  have q1 : w3.cell? ⟨w.heap.size, 1, none⟩ = some (.int .i64 0) := (hb3.cell (by simp)).trans (by go_simp)
  have q2 : w3.cell? ⟨w.heap.size, 2, none⟩ = some (.string ⟨#[]⟩) := (hb3.cell (by simp)).trans (by go_simp)
  have f0 : w3.frozen? ⟨w.heap.size, 0, none⟩ = false := (hb3.frozen (by simp)).trans (by go_simp)
  have f1 : w3.frozen? ⟨w.heap.size, 1, none⟩ = false := (hb3.frozen (by simp)).trans (by go_simp)
  have f2 : w3.frozen? ⟨w.heap.size, 2, none⟩ = false := (hb3.frozen (by simp)).trans (by go_simp)
  have hB3 : Below w.heap.size w w3 := by
    refine Below.trans ?_ (hb3.mono (by simp))
    repeat first | exact Below.refl _ _ | refine Below.alloc ?_ (by simp) _ | refine Below.drew ?_
  have HB3 := Lib.hid hB3
  clear hb3 hB3
  go_wp2_with (go_at_call 28; first | ((with_reducible refine (HK.out _).mono ?_); rintro e w2 ⟨rfl, rfl⟩) | ((with_reducible refine (HO.out _).mono ?_); rintro e w2 ⟨rfl, rfl⟩) | ((with_reducible refine (HN.out _).mono ?_); rintro e w2 ⟨rfl, rfl⟩) | ((with_reducible refine (HX.out _).mono ?_); rintro e w2 ⟨rfl, rfl⟩))
  go_loop [14] (fun i => ∃ k : Nat, 11 + n ≤ k ∧ k ≤ 252 ∧ i = .int .i64 k ∧ Hid (∀ (j : Nat) (hj : j < b.size), 11 + n ≤ j → j < k → b[j] = 0)) (fun i => 252 - (RowKit.intOf i).toNat)
  case atStart => exact ⟨11 + n, Nat.le_refl _, by omega, by go_num, fun j _ ha hb => absurd hb (by omega)⟩
  case round =>
    obtain ⟨k, hk1, hk2, rfl, HA⟩ := hrel
    by_cases hlt : k < 252
    · have hkb : k < b.size := by omega
      by_cases hz : b[k] = 0
      · have e1 : ((b[k].toNat : Int) != 0) = false := by rw [hz]; rfl
        have HZK := Lib.hid hz
        clear hz
        go_wp2_with fail
        go_round
        case rel => exact ⟨k + 1, by omega, by omega, by go_num, fun j hj ha hb => by
          by_cases e : j = k
          · subst e; exact HZK.out
          · exact HA.out j hj ha (by omega)⟩
        case measure => simp [RowKit.intOf]; omega
      · have e1 : ((b[k].toNat : Int) != 0) = true := by
          simp
          exact fun e => hz (UInt8.toNat_inj.1 (by simpa using e))
        clear hz
        go_wp2_with fail
        refine bodyPost_ret (v := .tuple #[.agg #[.int .i64 0, .int .i64 0, .string ⟨#[]⟩], .int .i64 4]) (by simp [results, Tryd.results27, go_sem, q0, q1, q2]) rfl ⟨rfl, ?_⟩
        exact Below.setCell (Below.setCell (Below.setCell HB3.out (by simp) _) (by simp) _) (by simp) _
    · exact absurd (HA.out j0 hj0 ha0 (by omega)) HZ.out

/-- The document's own Open, of any number and any bytes. -/
theorem refOpen_any (id : Int) (b : ByteArray) (w : World) (hid : IsInt id) : Calls Tryd.prog 27 #[.int .i64 id, .string b] w fun e w' => e = .returned (openV id b.data.toList) ∧ Below w.heap.size w w' := by
  have hl : b.data.toList.length = b.size := by simp
  by_cases h : b.size = 256
  · have hx : (b.extract 0 252).data.toList = b.data.toList.take 252 := by simp
    by_cases h1 : fld b.data.toList 252 4 = crcB (b.data.toList.take 252)
    · have h1' : fld b.data.toList 252 4 = crcB (b.extract 0 252).data.toList := by rw [hx]; exact h1
      by_cases h2 : (fld b.data.toList 1 4 : Int) ≠ id ∨ fld b.data.toList 0 1 = 0 ∨ 240 < fld b.data.toList 9 2
      · rw [openV_bad (open_form (hl.trans h) h1 h2) (by decide)]
        refine ropen_form id b w _ _ _ _ h ⟨rfl, rfl, rfl, rfl⟩ h1' ?_
        by_cases a : (fld b.data.toList 1 4 : Int) = id
        · refine .inr ?_
          by_cases c : fld b.data.toList 0 1 = 0
          · exact .inl ⟨by simpa using a, by simpa using c⟩
          · exact .inr ⟨by simpa using a, by simpa using c, by omega⟩
        · exact .inl (by simpa using a)
      · have a : (fld b.data.toList 1 4 : Int) = id := by omega
        have c : ¬ fld b.data.toList 0 1 = 0 := by omega
        have d : fld b.data.toList 9 2 ≤ 240 := by omega
        have hz : zeroB (tailB b.data.toList) = true ↔ ∀ (j : Nat) (hj : j < b.size), 11 + fld b.data.toList 9 2 ≤ j → j < 252 → b[j] = 0 := by
          rw [zeroB, List.all_eq_true]
          constructor
          · intro g j hj ha hb
            have hm : b[j] ∈ tailB b.data.toList := by
              rw [tailB, List.mem_iff_getElem?]
              refine ⟨j - (11 + fld b.data.toList 9 2), ?_⟩
              rw [List.getElem?_drop, List.getElem?_take, if_pos (by omega), show 11 + fld b.data.toList 9 2 + (j - (11 + fld b.data.toList 9 2)) = j by omega, List.getElem?_eq_getElem (by simpa using hj)]
              rfl
            simpa using g _ hm
          · intro g x hx
            rw [tailB, List.mem_iff_getElem?] at hx
            obtain ⟨i, hi⟩ := hx
            rw [List.getElem?_drop, List.getElem?_take] at hi
            split at hi
            · rename_i hlt
              rw [List.getElem?_eq_getElem (by rw [hl]; omega)] at hi
              have := g (11 + fld b.data.toList 9 2 + i) (by omega) (by omega) hlt
              have e : x = b[11 + fld b.data.toList 9 2 + i]'(by omega) := (Option.some.inj hi).symm
              rw [e, this]
              rfl
            · cases hi
        cases h3 : zeroB (tailB b.data.toList)
        · rw [openV_bad (open_tail (hl.trans h) h1 h2 h3) (by decide)]
          have hn : ∃ (j : Nat) (hj : j < b.size), 11 + fld b.data.toList 9 2 ≤ j ∧ j < 252 ∧ ¬ b[j] = 0 := by
            refine Classical.byContradiction fun hc => ?_
            rw [hz.2 (fun j hj ha hb => Classical.byContradiction fun e => hc ⟨j, hj, ha, hb, e⟩)] at h3
            cases h3
          obtain ⟨j, hj, ha, hb, hne⟩ := hn
          exact ropen_tail id b w _ _ _ _ h ⟨rfl, rfl, rfl, rfl⟩ h1' (by simpa using a) (by simpa using c) d j hj ha hb hne
        · rw [openV_ok (open_ok (hl.trans h) h1 h2 h3)]
          have e : (⟨((b.data.toList.drop 11).take (fld b.data.toList 9 2)).toArray⟩ : ByteArray) = b.extract 11 (11 + fld b.data.toList 9 2) := by
            apply ByteArray.ext
            apply Array.ext'
            rw [ByteArray.data_extract, Array.toList_extract, List.extract_eq_take_drop]
            simp
          rw [e]
          exact ropen_zero id b w _ _ _ _ h ⟨rfl, rfl, rfl, rfl⟩ h1' (by simpa using a) (by simpa using c) d (hz.1 h3)
    · rw [openV_bad (open_sum (hl.trans h) h1) (by decide)]
      exact ropen_sum id b w h (by rw [hx]; exact h1)
  · rw [openV_bad (open_short (by rw [hl]; exact h)) (by decide)]
    exact ropen_short id b w h
end Go.Proofs.YthcpjpebahiikaaDoor
