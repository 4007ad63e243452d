/-
  Walks: Digits; and the first call whose answer the document fixes.
-/
import Derived.Test.YtdkafkdilmheiaaDoorW3
import Derived.Test.YtdkafkdilmheiaaDoorW5
import Derived.Test.YtdkafkdilmheiaaDoorW6
import Derived.Test.YtdkafkdilmheiaaDoorW7
import Derived.Test.YtdkafkdilmheiaaDoorW8
import Derived.Test.YtdkafkdilmheiaaDoorW9
import Derived.Lib.LaidTab
namespace Go.Proofs.YtdkafkdilmheiaaDoor
open Go.RowKit Go.Lib

/-- The table of powers of ten is what it was laid as. -/
def TabOK (w : World) : Prop := Lib.TabIs Tryd.prog w "internal/strconv.uint64pow10" .u64 Lib.pow10Tab

theorem gPow10 : Tryd.prog.globalNamed "internal/strconv.uint64pow10" = some 0 := by kernel_rfl

theorem TabOK.below {w w' : World} {B : Nat} (h : TabOK w) (hb : Below B w w') (hB : 0 < B) : TabOK w' := var?_below hb gPow10 hB h
theorem TabOK.inside {w : World} (h : TabOK w) : 0 < w.heap.size := by
  have := h.cell gPow10 0 (by decide)
  exact World.block_lt_of_cell? w _ this

theorem below_grow (w : World) (k : Nat) (os : Array Obj) : Below w.heap.size w (Go.Sort.grow (w.drewN k) os) := by
  refine ⟨rfl, rfl, rfl, by simp, fun i hi => ?_⟩
  show (w.heap ++ os)[i]? = _
  rw [Array.getElem?_append_left hi]

set_option maxRecDepth 1000000 in
set_option maxHeartbeats 400000 in
theorem digits_any (v : Int) (w : World) (hv : IsInt v) (ht : TabOK w) : Calls Tryd.prog 26 #[.int .i64 v] w fun e w' => e = .returned (.string ⟨(itoa v).toArray⟩) ∧ Below w.heap.size w w' := by
  have HT := Lib.hid ht
  clear ht
  go_enter Tryd.func26, Tryd.ntmps26
  go_wp2_with (go_at_call 43; refine (Tryd.strconv_Itoa v hv.1 hv.2 _ HT.out).mono ?_; rintro e w' ⟨rfl, k, os, rfl⟩)
  go_ret
  exact ⟨rfl, below_grow _ _ _⟩

theorem fix258 (w : World) : Calls Tryd.prog 12 #[.int .i64 258, .int .i64 2] w fun e w' => e = .returned (.tuple #[.string ⟨#[2, 1]⟩, .int .i64 0]) ∧ Below w.heap.size w w' := by
  have h := fix_any 258 2 w (by decide)
  have e1 : fixB 258 2 = [2, 1] := by decide +kernel
  have e2 : fixE 258 2 = 0 := by decide +kernel
  rw [e1, e2] at h
  exact h
theorem unfix258 (w : World) : Calls Tryd.prog 14 #[.string ⟨#[120, 2, 1]⟩, .int .i64 1, .int .i64 2] w fun e w' => e = .returned (.tuple #[.int .i64 258, .int .i64 0]) ∧ w = w' := by
  have h := unfix_any ⟨#[120, 2, 1]⟩ 1 2 w (by decide) (by decide)
  have e1 : unfixV (⟨#[120, 2, 1]⟩ : ByteArray).data.toList 1 2 = 258 := by decide +kernel
  have e2 : unfixE (⟨#[120, 2, 1]⟩ : ByteArray).data.toList 1 2 = 0 := by decide +kernel
  rw [e1, e2] at h
  exact h
theorem new128 (w : World) : Calls Tryd.prog 38 #[.string ⟨#[128, 1]⟩] w fun e w' => e = .returned (.pointer (some ⟨w.heap.size, 0, none⟩)) ∧ Rd w' w.heap.size [128, 1] 0 ∧ Below w.heap.size w w' := new_any ⟨#[128, 1]⟩ w (by decide)
theorem var3 (w : World) : Calls Tryd.prog 21 #[.slice (some ⟨w.heap.size, 0, none⟩) 3 3] (w.alloc (.cells #[.int .i64 0, .int .i64 (-1), .int .i64 64] 3)) fun e w' => e = .returned (.string ⟨#[0, 1, 128, 1]⟩) ∧ Below w.heap.size w w' := by
  have hr := (Reads1.built w 3 #[.int .i64 0, .int .i64 (-1), .int .i64 64]).mono (B' := (w.alloc (.cells #[.int .i64 0, .int .i64 (-1), .int .i64 64] 3)).heap.size) (by simp)
  have h := var_any _ [0, -1, 64] _ hr (by decide) (by intro x hx; unfold IsInt; simp at hx; omega)
  have e1 : varsB [0, -1, 64] = [0, 1, 128, 1] := by
    have z0 : zigzag 0 = 0 := by decide
    have z1 : zigzag (-1) = 1 := by decide
    have z2 : zigzag 64 = 128 := by decide
    simp only [varsB, List.flatMap_cons, List.flatMap_nil, z0, z1, z2]
    rw [uvarint_small (by decide), uvarint_small (by decide), uvarint_big (by decide), uvarint_small (by decide)]
    decide
  rw [e1] at h
  refine h.mono ?_
  rintro e w' ⟨rfl, hb⟩
  exact ⟨rfl, ((Below.refl _ _).alloc (Nat.le_refl _) _).trans (hb.mono (by simp))⟩
theorem crc2 (w : World) : Calls Tryd.prog 24 #[.slice (some ⟨w.heap.size, 0, none⟩) 2 2] (w.alloc (.cells #[.string ⟨#[49, 50, 51, 52]⟩, .string ⟨#[53, 54, 55, 56, 57]⟩] 9)) fun e w' => e = .returned (.int .i64 3421780262) ∧ Below w.heap.size w w' := by
  have hr := (Reads1.built w 9 #[.string ⟨#[49, 50, 51, 52]⟩, .string ⟨#[53, 54, 55, 56, 57]⟩]).mono (B' := (w.alloc (.cells #[.string ⟨#[49, 50, 51, 52]⟩, .string ⟨#[53, 54, 55, 56, 57]⟩] 9)).heap.size) (by simp)
  have h := crc_any _ [⟨#[49, 50, 51, 52]⟩, ⟨#[53, 54, 55, 56, 57]⟩] _ hr (by decide) (by intro s hs; simp at hs; rcases hs with rfl | rfl <;> decide)
  have e1 : crcB (flat [⟨#[49, 50, 51, 52]⟩, ⟨#[53, 54, 55, 56, 57]⟩]) = 3421780262 := by decide +kernel
  rw [e1] at h
  refine h.mono ?_
  rintro e w' ⟨rfl, rfl⟩
  exact ⟨rfl, (Below.refl _ _).alloc (Nat.le_refl _) _⟩
theorem rvar64 (b : Nat) (w : World) (h : Rd w b [128, 1] 0) : Calls Tryd.prog 32 #[.pointer (some ⟨b, 0, none⟩)] w (RdPost w b (.int .i64 64) [] 0) := by
  have h := rvar_any b _ w h
  have e1 : rvar [128, 1] = (64, [], 0) := by decide +kernel
  rw [e1] at h
  exact h
theorem end0 (b : Nat) (w : World) (h : Rd w b [] 0) : Calls Tryd.prog 37 #[.pointer (some ⟨b, 0, none⟩)] w fun e w' => e = .returned (.int .i64 0) ∧ w = w' := end_any b [] 0 w h
theorem digits7 (w : World) (ht : TabOK w) : Calls Tryd.prog 26 #[.int .i64 (-7)] w fun e w' => e = .returned (.string ⟨#[45, 55]⟩) ∧ Below w.heap.size w w' := by
  have h := digits_any (-7) w ⟨by decide, by decide⟩ ht
  have e1 : itoa (-7) = [45, 55] := by
    have := itoa_neg 7 (by decide)
    rw [decDigits_one (by decide)] at this
    exact this
  rw [e1] at h
  exact h

set_option maxRecDepth 1000000 in
set_option maxHeartbeats 400000 in
theorem alive_any (w : World) (ht : TabOK w) : Calls Tryd.prog 11 #[] w fun e w' => e = .returned (.bool true) ∧ Below w.heap.size w w' := by
  have HT := Lib.hid ht
  have hin := ht.inside
  clear ht
  go_enter Tryd.func11, Tryd.ntmps11
  go_wp2_with fail
  refine (fix258 _).mono ?_
  rintro e w1 ⟨rfl, hb1⟩
  go_wp2_with fail
  refine (unfix258 _).mono ?_
  rintro e w' ⟨rfl, rfl⟩
  go_wp2_with fail
  refine (new128 _).mono ?_
  rintro e w2 ⟨rfl, hrd2, hb2⟩
  go_wp2_with fail
  refine (var3 w2).mono ?_
  rintro e w3 ⟨rfl, hb3⟩
  go_wp2_with fail
  refine (crc2 w3).mono ?_
  rintro e w4 ⟨rfl, hb4⟩
  go_wp2_with fail
  have s1 := hb1.size
  have s2 := hb2.size
  have s3 := hb3.size
  have s4 := hb4.size
  have hb14 : Below w1.heap.size w1 w4 := (hb2.trans (hb3.mono (by omega))).trans (hb4.mono (by omega))
  have hin2 := hrd2.inside
  have hrd4 := (hrd2.below hb3 (by omega)).below hb4 (by omega)
  refine (rvar64 _ _ hrd4).mono ?_
  rintro e w5 ⟨rfl, hrd5, hg5⟩
  go_wp2_with fail
  refine (end0 _ _ hrd5).mono ?_
  rintro e w' ⟨rfl, rfl⟩
  have hb45 : Below w.heap.size w w5 := (hb1.trans (hb14.mono (by omega))).trans (below_of_grownBy hg5 (by omega) (by omega))
  have s5 := hb45.size
  go_wp2_with fail
  refine (digits7 _ (HT.out.below hb45 hin)).mono ?_
  rintro e w6 ⟨rfl, hb6⟩
  go_wp2
  go_ret
  exact ⟨rfl, hb45.trans (hb6.mono s5)⟩
end Go.Proofs.YtdkafkdilmheiaaDoor
