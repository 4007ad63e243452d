/-
  The statements of chapter 4: a first call whose answer the document fixes.
-/
import Derived.Test.YtaliepcbkfnlhaaDoorS3
import Derived.Test.YtaliepcbkfnlhaaDoorS4
namespace Go.Proofs.YtaliepcbkfnlhaaDoor
open Go.RowKit Go.Lib

def xB : ByteArray := ⟨#[120]⟩
def pageX : ByteArray := ⟨(pageB 2 7 0 [120]).toArray⟩
theorem pageX_list : pageX.data.toList = pageB 2 7 0 [120] := by simp [pageX]
theorem pageX_size : (pageX.size : Int) = 256 := by
  have h := pageB_len (kind := 2) (id := 7) (next := 0) (s := [120]) (by decide)
  rw [← pageX_list] at h
  have : pageX.size = 256 := by simpa using h
  omega
theorem seal_x (w : World) : Calls Tryd.prog 7 #[.int .i64 7, .agg #[.int .i64 2, .int .i64 0, .string ⟨#[120]⟩]] w fun e w' => e = .returned (.tuple #[.string pageX, .int .i64 0]) ∧ Below w.heap.size w w' := by
  have h := seal_any 7 2 0 ⟨#[120]⟩ w (by unfold IsInt; omega) (by unfold IsInt; omega) (by unfold IsInt; omega) (by decide)
  exact h
theorem open_x (w : World) : Calls Tryd.prog 11 #[.int .i64 7, .string pageX] w fun e w' => e = .returned (.tuple #[.agg #[.int .i64 2, .int .i64 0, .string ⟨#[120]⟩], .int .i64 0]) ∧ Below w.heap.size w w' := by
  have h := open_any 7 pageX w
  rw [pageX_list] at h
  rw [show (7 : Int) = ((7 : Nat) : Int) from rfl, page_open (by omega) (by omega) (by omega) (by omega) (by decide)] at h
  exact h
theorem open_y (w : World) : Calls Tryd.prog 11 #[.int .i64 8, .string pageX] w fun e w' => e = .returned (.tuple #[.agg #[.int .i64 0, .int .i64 0, .string ⟨#[]⟩], .int .i64 4]) ∧ Below w.heap.size w w' := by
  have h := open_any 8 pageX w
  rw [pageX_list, openV_bad (page_other (by omega) (by decide) 8 (by decide)) (by decide)] at h
  exact h

set_option maxRecDepth 100000 in
set_option maxHeartbeats 1000000 in
theorem alive_walk (w : World) : Calls Tryd.prog 6 #[] w fun e w' => e = .returned (.bool true) ∧ Below w.heap.size w w' := by
  have HS := Lib.hid seal_x
  have HX := Lib.hid open_x
  have HY := Lib.hid open_y
  have hz := pageX_size
  generalize pageX = X at *
  go_enter Tryd.func6, Tryd.ntmps6
  go_wp2_with (go_at_call 7; ((with_reducible refine (HS.out _).mono ?_)); rintro e w1 ⟨rfl, hb1⟩)
  have hs1 := hb1.size
  go_wp2_with fail
  refine (HX.out _).mono ?_
  rintro e w2 ⟨rfl, hb2⟩
  have hs2 := hb2.size
  go_wp2_with fail
  refine (HY.out _).mono ?_
  rintro e w3 ⟨rfl, hb3⟩
  have hs3 := hb3.size
  have hH : Has (w3.alloc (.cells #[.int .i64 0, .int .i64 0, .string ⟨#[]⟩] 23)) w2.heap.size 23 #[.int .i64 2, .int .i64 0, .string ⟨#[120]⟩] := ((Has.made w2 _ _).below hb3 (by simp)).alloc _
  have r0 : (w3.alloc (.cells #[.int .i64 0, .int .i64 0, .string ⟨#[]⟩] 23)).cell? ⟨w2.heap.size, 0, none⟩ = some (.int .i64 2) := hH.cell 0
  have r1 : (w3.alloc (.cells #[.int .i64 0, .int .i64 0, .string ⟨#[]⟩] 23)).cell? ⟨w2.heap.size, 1, none⟩ = some (.int .i64 0) := hH.cell 1
  have r2 : (w3.alloc (.cells #[.int .i64 0, .int .i64 0, .string ⟨#[]⟩] 23)).cell? ⟨w2.heap.size, 2, none⟩ = some (.string ⟨#[120]⟩) := hH.cell 2
  clear hH
  have HB := Lib.hid (And.intro hb1 (And.intro hb2 hb3))
  clear hb1 hb2 hb3
  go_wp2_with fail
  go_ret
  obtain ⟨hb1, hb2, hb3⟩ := HB.out
  simp at hs3
  refine ⟨rfl, Below.alloc ?_ (by omega) _⟩
  refine hb1.trans ((hb2.mono hs1).trans (Below.trans ?_ (hb3.mono (by simp; omega))))
  exact (Below.refl _ _).alloc (by omega) _
end Go.Proofs.YtaliepcbkfnlhaaDoor
