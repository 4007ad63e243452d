/-
  OverFull: where there is no room for a chain nothing is made; else just as many pages as its pieces. For every value and every number of pages. Conditions: the variables that the row lists are laid as its card says.
-/
import Derived.Test.YtlignamakiiokaaGreatDoorMg40
import Derived.Test.YtlignamakiiokaaGreatDoorMg27
import Derived.Test.YtlignamakiiokaaGreatDoorMg41
namespace Go.Proofs.YtlignamakiiokaaGreatDoor.overFull
open Go.RowKit Go.Sort Go.Lib Go.ChangeShapes Go.WideShapes Go.ChangeAt

/-- Rising numbers that are just those of a list. -/
theorem fated_len {H : Int → Chg} {L M : List Int} (h : Fated H 1 L) (hM : M.Nodup) (hH : ∀ y, (H y).fate = 1 ↔ y ∈ M) : L.length = M.length := by
  have h1 : L.Nodup := h.1.imp (fun {a b} hab => by omega)
  exact ((List.perm_ext_iff_of_nodup h1 hM).2 (fun a => by rw [h.2.2 a, hH a])).length_eq


/-- What does not come to a pager. -/
def Out (z : Nat) (most : Int) (i : Nat) : Prop := match i with
  | 0 => z < 1
  | 1 => ¬ (z < 1) ∧ 2000 < z
  | 2 => ¬ (z < 1) ∧ ¬ (2000 < z) ∧ most < 3
  | 3 => ¬ (z < 1) ∧ ¬ (2000 < z) ∧ ¬ (most < 3) ∧ 20 < most
  | _ => False

set_option maxRecDepth 1000000 in
set_option maxHeartbeats 2000000 in
theorem walk_out (w : World) (v : ByteArray) (most : Int) (_hs : v.size ≤ 9223372036854775807) (i : Nat) (h : Out v.size most i) :
    Calls Tryz.prog 6 #[.string v, .int .i64 most] w fun e w' => e = .returned (.bool true) ∧ Below w.heap.size w w' := by
  have hal := alive10_any w
  match i, h with
  | 0, h =>
    have g1 : v.size < 1 := h
    clear h
    go_enter Tryz.func6, Tryz.ntmps6
    go_wp2_with fail
    refine hal.mono ?_
    rintro e w1 ⟨rfl, hb⟩
    have HB := Lib.hid hb
    clear hal hb
    go_wp2_with fail
    go_ret
    exact ⟨rfl, HB.out⟩
  | 1, h =>
    have g1 : ¬ (v.size < 1) := h.1
    have g2 : decide ((2000 : Int) < (v.size : Int)) = true := by have := h.2; simp; omega
    clear h
    go_enter Tryz.func6, Tryz.ntmps6
    go_wp2_with fail
    refine hal.mono ?_
    rintro e w1 ⟨rfl, hb⟩
    have HB := Lib.hid hb
    clear hal hb
    go_wp2_with fail
    go_ret
    exact ⟨rfl, HB.out⟩
  | 2, h =>
    have g1 : ¬ (v.size < 1) := h.1
    have g2 : decide ((2000 : Int) < (v.size : Int)) = false := by have := h.2.1; simp; omega
    have g3 : decide (most < 3) = true := by have := h.2.2; simp; omega
    clear h
    go_enter Tryz.func6, Tryz.ntmps6
    go_wp2_with fail
    refine hal.mono ?_
    rintro e w1 ⟨rfl, hb⟩
    have HB := Lib.hid hb
    clear hal hb
    go_wp2_with fail
    go_ret
    exact ⟨rfl, HB.out⟩
  | 3, h =>
    have g1 : ¬ (v.size < 1) := h.1
    have g2 : decide ((2000 : Int) < (v.size : Int)) = false := by have := h.2.1; simp; omega
    have g3 : decide (most < 3) = false := by have := h.2.2.1; simp; omega
    have g4 : decide (20 < most) = true := by have := h.2.2.2; simp; omega
    clear h
    go_enter Tryz.func6, Tryz.ntmps6
    go_wp2_with fail
    refine hal.mono ?_
    rintro e w1 ⟨rfl, hb⟩
    have HB := Lib.hid hb
    clear hal hb
    go_wp2_with fail
    go_ret
    exact ⟨rfl, HB.out⟩
  | k + 4, h => exact h.elim



theorem reads (os : Os) {H : Type} (enc : TypeId × Value → H) : ∃ places, DataW.whole enc Tryz.prog ((laidWorld os).forCall (fun _ _ => 0) ⟨#[], #[.string ByteArray.empty, .int .i64 0], []⟩).memory Tryz.f6.params.toList Rows.overFullSpec.vars false (#[.string ByteArray.empty, .int .i64 0] : Array Value).toList 8 = some ([.lit (.string []), .lit (.int .i64 0)], [], places) :=
  ⟨[], by kernel_rfl⟩



set_option maxRecDepth 100000 in
theorem plain (f : FuncId) (fn : Func) (hf : Tryz.pinned.checked.prog.funcNamed "arboretum/arboretumlaw10.OverFull" = some f) (hfn : Tryz.pinned.checked.prog.funcs[f]? = some fn) :
    true = Tryz.pinned.checked.prog.looks [] ∧ ∀ (j : Nat) t, fn.params[j]? = some t → Tryz.pinned.checked.prog.wantsStandIn t = false := by
  obtain rfl : f = 6 := Option.some.inj ((show Tryz.prog.funcNamed "arboretum/arboretumlaw10.OverFull" = some 6 by kernel_rfl).symm.trans hf) |>.symm
  obtain rfl : fn = Tryz.f6 := (Option.some.inj (Tryz.func6.symm.trans hfn)).symm
  refine ⟨by kernel_rfl, fun j t ht => ?_⟩
  rw [Tryz.params6] at ht
  have hm : t ∈ [9, 3] := by simpa using Array.mem_of_getElem? ht
  have hall : ([9, 3].all fun u => !Tryz.prog.wantsStandIn u) = true := by kernel_rfl
  exact (show Tryz.prog.wantsStandIn t = false by simpa using List.all_eq_true.1 hall t hm)


end Go.Proofs.YtlignamakiiokaaGreatDoor.overFull
