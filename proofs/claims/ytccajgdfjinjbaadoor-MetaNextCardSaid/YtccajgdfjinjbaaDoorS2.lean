/-
  Walks over package page, and the document's own: small words; the sum of one text.
-/
import Derived.Test.YtccajgdfjinjbaaDoorS1
import Derived.Test.YtccajgdfjinjbaaDoorK0
import Derived.Test.YtccajgdfjinjbaaDoorCL
import Derived.Deep.QuietTactic
import Derived.BigQuiet
import Derived.Deep.RegionHeld3
import Derived.StillTailTactics
namespace Go.Proofs.YtccajgdfjinjbaaDoor
open Go.RowKit Go.Lib

theorem cat_data (a b : ByteArray) : (a ++ b).data.toList = a.data.toList ++ b.data.toList := by simp

theorem crc_cell (s : ByteArray) (g : Nat) (w : World) (hs : s.size ≤ 9223372036854775807) (hc : w.cell? ⟨g, 0, none⟩ = some (.string s)) :
    Calls Tryd.prog 47 #[.slice (some ⟨g, 0, none⟩) 1 1] w fun e w' => e = .returned (.int .i64 (crcB s.data.toList)) ∧ w = w' := by
  have hr : Reads1 w w.heap.size (.slice (some ⟨g, 0, none⟩) 1 1) ([s].map Value.string) := by
    refine ⟨_, _, rfl, fun _ => ⟨g, 0, rfl, World.block_lt_of_cell? w _ hc, fun j u hu => ?_⟩⟩
    match j, hu with
    | 0, hu => simp at hu; subst hu; exact hc
    | j + 1, hu => simp at hu
  have h := crc_any _ [s] _ hr (by simp) (by intro x hx; simp at hx; subst hx; exact hs)
  have e1 : flat [s] = s.data.toList := by simp [flat]
  rw [e1] at h
  exact h

set_option maxRecDepth 100000 in
set_option maxHeartbeats 400000 in
theorem field_any (s : ByteArray) (a n : Nat) (w : World) (h1 : 1 ≤ n) (h7 : n ≤ 7) (hs : s.size ≤ 9223372036854775807) (h : a + n ≤ s.size) :
    Calls Tryd.prog 50 #[.string s, .int .i64 a, .int .i64 n] w fun e w' => e = .returned (.int .i64 (fld s.data.toList a n)) ∧ w = w' := by
  have H := Lib.hid (fun w => unfix_ok s a n w h1 h7 hs h)
  clear h1 h7 hs h
  unfold fld
  go_enter Tryd.func50, Tryd.ntmps50
  go_wp2_with (go_at_call 52; refine (H.out _).mono ?_; rintro e w' ⟨rfl, rfl⟩)
  go_ret
  exact ⟨rfl, rfl⟩

/-- A field of a text of 256 bytes, at given places. -/
theorem field_at (s : ByteArray) (x : Nat) (i n : Int) (a k : Nat) (w : World) (hi : i = a) (hn : n = k) (h1 : 1 ≤ k) (h7 : k ≤ 7) (hs : s.size = 256) (h : a + k ≤ 256) (hx : fld s.data.toList a k = x) :
    Calls Tryd.prog 50 #[.string s, .int .i64 i, .int .i64 n] w fun e w' => e = .returned (.int .i64 x) ∧ w = w' := by
  subst hi hn hx
  exact field_any s a k w h1 h7 (by omega) (by omega)

theorem dropWhile_all {α : Type} (p : α → Bool) : ∀ l : List α, (∀ x ∈ l.dropWhile p, p x = true) → ∀ x ∈ l, p x = true
  | [], _ => by simp
  | a :: r, h => by
    by_cases ha : p a = true
    · rw [List.dropWhile_cons_of_pos ha] at h
      intro x hx
      rcases List.mem_cons.1 hx with rfl | hx
      · exact ha
      · exact dropWhile_all p r h x hx
    · rw [List.dropWhile_cons_of_neg ha] at h
      exact absurd (h a (by simp)) ha
theorem dropWhile_nil {α : Type} (p : α → Bool) (l : List α) : l.dropWhile p = [] ↔ ∀ x ∈ l, p x = true := by
  constructor
  · intro h
    exact dropWhile_all p l (by rw [h]; simp)
  · intro h
    induction l with
    | nil => rfl
    | cons a r ih => rw [List.dropWhile_cons_of_pos (h a (by simp))]; exact ih (fun x hx => h x (by simp [hx]))
theorem trimB_nil (l : List UInt8) : trimB l 0 = [] ↔ zeroB l = true := by
  unfold trimB trimLeftB trimRightB zeroB
  rw [dropWhile_nil, List.all_eq_true]
  constructor
  · intro h x hx
    exact dropWhile_all (fun c => c == 0) l.reverse (fun y hy => h y (by simpa using hy)) x (by simpa using hx)
  · intro h x hx
    exact h x (by have := (List.dropWhile_sublist _).subset (List.mem_reverse.1 hx); simpa using this)

set_option maxHeartbeats 400000 in
theorem trim_zero (s : ByteArray) (w : World) (hs : s.size ≤ 9223372036854775807) (h : zeroB s.data.toList = true) :
    Calls Tryd.prog 51 #[.string s, .string ⟨#[0]⟩] w fun e w' => e = .returned (.string ⟨#[]⟩) ∧ ∃ k, w' = w.drewN k := by
  have h1 := Tryd.strings_Trim_one s 0 (by decide) w hs
  rw [(trimB_nil _).2 h] at h1
  refine h1.mono ?_
  rintro e w' ⟨rfl, rfl | rfl⟩
  · exact ⟨rfl, 0, rfl⟩
  · exact ⟨rfl, 1, rfl⟩
theorem trim_some (s : ByteArray) (w : World) (hs : s.size ≤ 9223372036854775807) (h : zeroB s.data.toList = false) :
    Calls Tryd.prog 51 #[.string s, .string ⟨#[0]⟩] w fun e w' => ∃ t : ByteArray, t.toList.isEmpty = false ∧ e = .returned (.string t) ∧ ∃ k, w' = w.drewN k := by
  have h1 := Tryd.strings_Trim_one s 0 (by decide) w hs
  have h2 : trimB s.data.toList 0 ≠ [] := fun e => by rw [(trimB_nil _).1 e] at h; exact absurd h (by simp)
  refine h1.mono ?_
  have h3 : ByteArray.toList ⟨(trimB s.data.toList 0).toArray⟩ ≠ [] := by rw [ByteArray.toList_eq]; simpa using h2
  rintro e w' ⟨rfl, rfl | rfl⟩
  · exact ⟨_, by simpa using h3, rfl, 0, rfl⟩
  · exact ⟨_, by simpa using h3, rfl, 1, rfl⟩
end Go.Proofs.YtccajgdfjinjbaaDoor
