/-
  Walks over package branch: textSize.
-/
import Derived.Test.YtpfifmjcmpankaaYI1
import Derived.Test.YtpfifmjcmpankaaYM2
import Derived.Test.YtpfifmjcmpankaaCL
import Derived.Deep.QuietTactic
import Derived.BigQuiet
import Derived.Deep.RegionHeld3
import Derived.StillTailTactics
namespace Go.Proofs.Ytpfifmjcmpankaa.BR
open Go.RowKit Go.Lib

/-- The bytes of one number, as a text. -/
def varS (n : Int) : ByteArray := ⟨(uvarint (zigzag n)).toArray⟩
theorem varS_list (n : Int) : (varS n).data.toList = uvarint (zigzag n) := by simp [varS]
theorem varS_size (n : Int) : (varS n).size = (uvarint (zigzag n)).length := by simp [varS, ByteArray.size]
theorem var1_any (g : Nat) (n : Int) (w : World) (hi : IsInt n) (hc : w.cell? ⟨g, 0, none⟩ = some (.int .i64 n)) :
    Calls Try.prog 22 #[.slice (some ⟨g, 0, none⟩) 1 1] w fun e w' => e = .returned (.string (varS n)) ∧ Below w.heap.size w w' := by
  have hr : Reads1 w w.heap.size (.slice (some ⟨g, 0, none⟩) 1 1) ([n].map (Value.int .i64)) := by
    refine ⟨_, _, rfl, fun _ => ⟨g, 0, rfl, World.block_lt_of_cell? w _ hc, fun j u hu => ?_⟩⟩
    match j, hu with
    | 0, hu => simp at hu; subst hu; exact hc
    | j + 1, hu => simp at hu
  have h := var_any _ [n] w hr (by simp) (by intro x hx; simp at hx; subst hx; exact hi)
  have e1 : varsB [n] = uvarint (zigzag n) := by simp [varsB]
  rw [e1] at h
  exact h
set_option maxRecDepth 100000 in
set_option maxHeartbeats 400000 in
theorem tsize_any (s : ByteArray) (w : World) (hs : s.size ≤ 4611686018427387904) : Calls Try.prog 34 #[.string s] w fun e w' => e = .returned (.int .i64 ((textB s).length : Nat)) ∧ Below w.heap.size w w' := by
  have hv := fun g w => var1_any g (s.size : Int) w ⟨by omega, by omega⟩
  have hu := uvarint_length64 (zigzag_lt (x := (s.size : Int)) (by omega) (by omega))
  have hl : (textB s).length = (uvarint (zigzag (s.size : Int))).length + s.size := by
    have h2 : s.data.toList.length = s.size := by simp
    unfold textB
    rw [List.length_append, h2]
  have hz := varS_size (s.size : Int)
  rw [← hz] at hu hl
  generalize varS (s.size : Int) = U at *
  generalize (textB s).length = T at *
  have HV := Lib.hid hv
  have HL := Lib.hid hl
  clear hv hl hz
  go_enter Try.func34, Try.ntmps34
  go_wp2_with fail
  refine (HV.out _ _ ?_).mono ?_
  · go_simp
  rintro e w1 ⟨rfl, hb1⟩
  go_wp2
  go_ret
  exact ⟨ret_i64 (by have := HL.out; omega), ((Below.refl _ _).alloc (Nat.le_refl _) _).trans (hb1.mono (by simp))⟩

/-- The box of a child, in a world where nothing that was there has turned. -/
theorem box_cells {w w1 : World} (x : Chd) (hb : Below (w.heap.size + 1) (w.alloc (iobj x)) w1) :
    w1.cell? ⟨w.heap.size, 0, none⟩ = some (.string x.key) ∧ w1.cell? ⟨w.heap.size, 1, none⟩ = some (.int .i64 x.page) := by
  have hm := (Has.made w 24 #[.string x.key, .int .i64 x.page]).below hb (by omega)
  exact ⟨hm.cell 0, hm.cell 1⟩
end Go.Proofs.Ytpfifmjcmpankaa.BR
