/-
  Walks over package leaf: allRight, Fits.
-/
import Derived.Test.YtpfifmjcmpankaaGreatMg15
import Derived.Test.YtpfifmjcmpankaaGreatMg16
import Derived.Laws.Cover1
namespace Go.Proofs.YtpfifmjcmpankaaGreat
open Go.RowKit Go.Lib

theorem okl_take {l : List Itm} (h : OKL l) (n : Nat) : OKL (l.take n) := ⟨fun x hx => h.1 x (List.mem_of_mem_take hx), h.2.take n⟩
theorem okl_drop {l : List Itm} (h : OKL l) (n : Nat) : OKL (l.drop n) := ⟨fun x hx => h.1 x (List.mem_of_mem_drop hx), h.2.drop n⟩
theorem okl_next {l : List Itm} {k : Nat} (hk : k < l.length) (h : OKL (l.take k)) (hr : rightB l[k] = true) (hl : ∀ h : 0 < k, ltK (l[k - 1]'(by omega)).key l[k].key = true) : OKL (l.take (k + 1)) := by
  refine ⟨fun x hx => ?_, ?_⟩
  · rw [take_snoc1 l k hk, List.mem_append] at hx
    rcases hx with hx | hx
    · exact h.1 x hx
    · simp at hx
      rw [hx]
      exact hr
  · refine rise_next fun i hi => ?_
    simp only [List.length_take] at hi
    rw [List.getElem_take, List.getElem_take]
    by_cases e : i + 1 = k
    · subst e
      exact hl (by omega)
    · have := h.2.at (i := i) (j := i + 1) (by omega) (by simp; omega)
      rwa [List.getElem_take, List.getElem_take] at this

set_option maxRecDepth 100000 in
set_option maxHeartbeats 1000000 in
theorem allRight_any (v : Value) (l : List Itm) (w : World) (hr : ReadsIt w w.heap.size v l) :
    Calls Tryz.prog 49 #[v] w fun e w' => e = .returned (.bool (decide (OKL l))) ∧ Below w.heap.size w w' := by
  obtain ⟨A, c, rfl, hlc, hcm, _, hc⟩ := hr
  have hl63 : l.length ≤ 9223372036854775807 := by unfold maxLen at hcm; omega
  clear hlc hcm
  obtain ⟨T, hT⟩ : ∃ T, decide (OKL l) = T := ⟨_, rfl⟩
  rw [hT]
  have HT := Lib.hid hT
  clear hT
  go_enter Tryz.func49, Tryz.ntmps49
  go_wp2
  go_loopw [7] (fun i wr => ∃ k : Nat, k ≤ l.length ∧ i = .int .i64 k ∧ OKL (l.take k) ∧ Below w.heap.size w wr) (fun i _ => l.length - (RowKit.intOf i).toNat)
  case atStart => exact ⟨0, Nat.zero_le _, rfl, ⟨fun x hx => by simp at hx, List.Pairwise.nil⟩, Below.refl _ _⟩
  case round =>
    obtain ⟨k, hk, rfl, hok, hbl⟩ := hrel
    have hbs := hbl.size
    by_cases hlt : k < l.length
    · obtain ⟨b, off, rfl, hbb, hcell⟩ := hc (by omega)
      obtain ⟨c0, c1, c2, c3⟩ := (hcell.below hbl hbb) k hlt
      have hnx := fun h1 h2 => okl_next hlt hok h1 h2
      have hno : rightB l[k] = false → decide (OKL l) = false := fun h => decide_eq_false fun h2 => by
        have := h2.1 l[k] (by simp)
        rw [h] at this; cases this
      by_cases hri : rightB l[k] = true
      · have HR := Lib.hid (fun w => right_any l[k] w)
        rw [hri] at HR
        by_cases hk0 : k = 0
        · have hok1 := hnx hri (fun h => absurd h (by omega))
          generalize l[k] = x at *
          have HOK := Lib.hid (And.intro hok1 hno)
          have hk1 : ¬ ((0 : Int) < (k : Int)) := by omega
          have hk2 : ¬ 0 < k := by omega
          clear hok hnx hno hc hcell hri hok1 hk0
          go_wp2_with fail
          obtain ⟨W0, hW0⟩ : ∃ W0, W0 = wr.alloc (iobj x) := ⟨_, rfl⟩
          have hbx := held_box hW0
          have h0 : Below wr.heap.size wr W0 := by subst hW0; exact (Below.refl _ _).alloc (Nat.le_refl _) _
          have hb0 := Below.refl W0.heap.size W0
          obtain ⟨d0, d1, d2, d3⟩ := hbx W0 hb0
          rw [← hW0]
          have HB := Lib.hid (And.intro hbx h0)
          clear hW0 hbx h0
          have e0 := cell_gw d0
          have e1 := cell_gw d1
          have e2 := cell_gw d2
          have e3 := cell_gw d3
          refine wp_region_gw (by kernel_rfl) (by kernel_rfl) ?_
          repeat (refine wq_step (fun K hK => ?_); go_simp; first | (refine hK _ ?_; clear hK K) | (apply Exists.intro; refine ⟨fun _ => ?_, hK _ ?_⟩; (go_at_call 127; ((with_reducible exact Calls.gw_of (HR.out _)))); clear hK K))
          refine wq_nil ?_
          intro w1 hw1
          replace hw1 := gw_to hw1
          clear e0 e1 e2 e3 d0 d1 d2 d3 c0 c1 c2 c3
          go_wp2
          go_roundw
          case rel => exact ⟨k + 1, by omega, by go_num, HOK.out.1, (hbl.trans (HB.out.2.mono hbs)).trans (hw1.mono (Nat.le_trans hbs HB.out.2.size))⟩
          case measure => simp [RowKit.intOf]; omega
        · obtain ⟨j, rfl⟩ : ∃ j, k = j + 1 := ⟨k - 1, by omega⟩
          clear hk0
          obtain ⟨b0, b1, b2, b3⟩ := (hcell.below hbl hbb) j (by omega)
          have hjb : (0 : Int) ≤ j := by omega
          have hjl : (j : Int) < (l.length : Int) := by omega
          have hjl2 : j < l.length := by omega
          have hwj : IntKind.i64.wrap (j : Int) = (j : Int) := by rw [IntKind.wrap_i64]; omega
          cases hlk : ltK l[j].key l[j + 1].key
          · have HTF := Lib.hid (HT.out.symm.trans (decide_eq_false fun h2 => by have h3 := h2.2.at (i := j) (j := j + 1) (by omega) (by omega); rw [hlk] at h3; cases h3))
            generalize l[j + 1] = x at *
            generalize l[j] = y at *
            unfold ltK at hlk
            clear hok hnx hno hc hcell hri
            go_wp2_with fail
            obtain ⟨W0, hW0⟩ : ∃ W0, W0 = wr.alloc (iobj x) := ⟨_, rfl⟩
            have hbx := held_box hW0
            have h0 : Below wr.heap.size wr W0 := by subst hW0; exact (Below.refl _ _).alloc (Nat.le_refl _) _
            have hb0 := Below.refl W0.heap.size W0
            obtain ⟨d0, d1, d2, d3⟩ := hbx W0 hb0
            have e4 : W0.cell? ⟨b, off + j * 4, none⟩ = some (.string y.key) := (h0.cell (p := ⟨b, off + j * 4, none⟩) (Nat.lt_of_lt_of_le hbb hbs)).trans b0
            have e5 := cell_gw e4
            rw [← hW0]
            have HB := Lib.hid (And.intro hbx h0)
            clear hW0 hbx h0
            have e0 := cell_gw d0
            have e1 := cell_gw d1
            have e2 := cell_gw d2
            have e3 := cell_gw d3
            refine wp_region_gw (by kernel_rfl) (by kernel_rfl) ?_
            repeat (refine wq_step (fun K hK => ?_); go_simp; first | (refine hK _ ?_; clear hK K) | (apply Exists.intro; refine ⟨fun _ => ?_, hK _ ?_⟩; (go_at_call 127; ((with_reducible exact Calls.gw_of (HR.out _)))); clear hK K))
            refine wq_nil ?_
            intro w1 hw1
            replace hw1 := gw_to hw1
            clear e0 e1 e2 e3 e4 e5 d0 d1 d2 d3 c0 c1 c2 c3 b0 b1 b2 b3
            go_wp2
            go_ret
            exact ⟨ret_bool HTF.out.symm, (hbl.trans (HB.out.2.mono hbs)).trans (hw1.mono (Nat.le_trans hbs HB.out.2.size))⟩
          · have hok1 := hnx hri (fun _ => hlk)
            generalize l[j + 1] = x at *
            generalize l[j] = y at *
            have HOK := Lib.hid (And.intro hok1 hno)
            unfold ltK at hlk
            clear hok hnx hno hc hcell hri hok1
            go_wp2_with fail
            obtain ⟨W0, hW0⟩ : ∃ W0, W0 = wr.alloc (iobj x) := ⟨_, rfl⟩
            have hbx := held_box hW0
            have h0 : Below wr.heap.size wr W0 := by subst hW0; exact (Below.refl _ _).alloc (Nat.le_refl _) _
            have hb0 := Below.refl W0.heap.size W0
            obtain ⟨d0, d1, d2, d3⟩ := hbx W0 hb0
            have e4 : W0.cell? ⟨b, off + j * 4, none⟩ = some (.string y.key) := (h0.cell (p := ⟨b, off + j * 4, none⟩) (Nat.lt_of_lt_of_le hbb hbs)).trans b0
            have e5 := cell_gw e4
            rw [← hW0]
            have HB := Lib.hid (And.intro hbx h0)
            clear hW0 hbx h0
            have e0 := cell_gw d0
            have e1 := cell_gw d1
            have e2 := cell_gw d2
            have e3 := cell_gw d3
            refine wp_region_gw (by kernel_rfl) (by kernel_rfl) ?_
            repeat (refine wq_step (fun K hK => ?_); go_simp; first | (refine hK _ ?_; clear hK K) | (apply Exists.intro; refine ⟨fun _ => ?_, hK _ ?_⟩; (go_at_call 127; ((with_reducible exact Calls.gw_of (HR.out _)))); clear hK K))
            refine wq_nil ?_
            intro w1 hw1
            replace hw1 := gw_to hw1
            clear e0 e1 e2 e3 e4 e5 d0 d1 d2 d3 c0 c1 c2 c3 b0 b1 b2 b3
            go_wp2
            go_roundw
            case rel => exact ⟨j + 1 + 1, by omega, by go_num, HOK.out.1, (hbl.trans (HB.out.2.mono hbs)).trans (hw1.mono (Nat.le_trans hbs HB.out.2.size))⟩
            case measure => simp [RowKit.intOf]; omega
      · have hri : rightB l[k] = false := by simpa using hri
        have HTF := Lib.hid (HT.out.symm.trans (hno hri))
        have HR := Lib.hid (fun w => right_any l[k] w)
        rw [hri] at HR
        generalize l[k] = x at *
        have HOK := Lib.hid (And.intro hok (And.intro hnx hno))
        clear hok hnx hno hc hcell hri
        go_wp2_with fail
        obtain ⟨W0, hW0⟩ : ∃ W0, W0 = wr.alloc (iobj x) := ⟨_, rfl⟩
        have hbx := held_box hW0
        have h0 : Below wr.heap.size wr W0 := by subst hW0; exact (Below.refl _ _).alloc (Nat.le_refl _) _
        have hb0 := Below.refl W0.heap.size W0
        obtain ⟨d0, d1, d2, d3⟩ := hbx W0 hb0
        rw [← hW0]
        have HB := Lib.hid (And.intro hbx h0)
        clear hW0 hbx h0
        have e0 := cell_gw d0
        have e1 := cell_gw d1
        have e2 := cell_gw d2
        have e3 := cell_gw d3
        refine wp_region_gw (by kernel_rfl) (by kernel_rfl) ?_
        repeat (refine wq_step (fun K hK => ?_); go_simp; first | (refine hK _ ?_; clear hK K) | (apply Exists.intro; refine ⟨fun _ => ?_, hK _ ?_⟩; (go_at_call 127; ((with_reducible exact Calls.gw_of (HR.out _)))); clear hK K))
        refine wq_nil ?_
        intro w1 hw1
        replace hw1 := gw_to hw1
        clear e0 e1 e2 e3 d0 d1 d2 d3 c0 c1 c2 c3
        go_wp2
        go_ret
        exact ⟨ret_bool HTF.out.symm, (hbl.trans (HB.out.2.mono hbs)).trans (hw1.mono (Nat.le_trans hbs HB.out.2.size))⟩
    · obtain rfl : k = l.length := by omega
      rw [List.take_length] at hok
      have HTF := Lib.hid (HT.out.symm.trans (decide_eq_true hok))
      go_wp2
      go_ret
      exact ⟨ret_bool HTF.out.symm, hbl⟩
end Go.Proofs.YtpfifmjcmpankaaGreat
