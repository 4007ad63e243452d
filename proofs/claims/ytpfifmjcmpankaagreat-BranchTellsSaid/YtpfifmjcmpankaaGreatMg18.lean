/-
  Walks over package branch: allRight.
-/
import Derived.Test.YtpfifmjcmpankaaGreatMg16
import Derived.Test.YtpfifmjcmpankaaGreatMg17
import Derived.Laws.Cover1
namespace Go.Proofs.YtpfifmjcmpankaaGreat.BR
open Go.RowKit Go.Lib

theorem below_drewC {B : Nat} {w wr : World} (h : Below B w wr) (k : Nat) : Below B w (wr.drewN k) := h.trans ⟨rfl, rfl, rfl, Nat.le_refl _, fun _ _ => rfl⟩
/-- As far as one has looked all is right. -/
def UpTo (l : List Chd) (k : Nat) : Prop := (∀ x ∈ l.take k, rightB x = true) ∧ Rise (l.take k)
theorem upTo_next {l : List Chd} {k : Nat} (hk : k < l.length) (h : UpTo l k) (hr : rightB l[k] = true) (hl : ∀ h : 0 < k, ltK (l[k - 1]'(by omega)).key l[k].key = true) : UpTo l (k + 1) := by
  refine ⟨fun x hx => ?_, rise_take hk h.2 hl⟩
  rw [take_snoc1 l k hk, List.mem_append] at hx
  rcases hx with hx | hx
  · exact h.1 x hx
  · simp at hx
    rw [hx]
    exact hr

set_option maxRecDepth 100000 in
set_option maxHeartbeats 1000000 in
theorem allRight_any (v : Value) (l : List Chd) (w : World) (hr : ReadsIt w w.heap.size v l) :
    Calls Tryz.prog 117 #[v] w fun e w' => e = .returned (.bool (decide (OKL l))) ∧ Below w.heap.size w w' := by
  obtain ⟨A, c, rfl, hlc, hcm, _, hc⟩ := hr
  have hl63 : l.length ≤ 9223372036854775807 := by unfold maxLen at hcm; omega
  clear hlc hcm
  obtain ⟨T, hT⟩ : ∃ T, decide (OKL l) = T := ⟨_, rfl⟩
  rw [hT]
  have HT := Lib.hid hT
  clear hT
  by_cases h0 : l.length = 0
  · have HTF := Lib.hid (HT.out.symm.trans (decide_eq_false fun h => by have := h.pos; omega))
    have hz : ((l.length : Int) == 0) = true := by rw [h0]; rfl
    clear hc
    go_enter Tryz.func117, Tryz.ntmps117
    go_wp2_with fail
    go_ret
    exact ⟨ret_bool HTF.out.symm, Below.refl _ _⟩
  · have hz : ((l.length : Int) == 0) = false := by rw [beq_eq_false_iff_ne]; omega
    obtain ⟨b, off, rfl, hbb, hcell⟩ := hc (by omega)
    clear hc
    obtain ⟨c0, c1⟩ := hcell 0 (by omega)
    have hpos : 0 < l.length := by omega
    have hposI : (0 : Int) < (l.length : Int) := by omega
    by_cases hk0 : l[0].key = ⟨#[]⟩
    · rw [hk0] at c0
      simp only [Nat.zero_mul, Nat.add_zero] at c0
      have HK0 := Lib.hid hk0
      have HCC := Lib.hid hcell
      clear hk0 h0 c1 hcell
      go_enter Tryz.func117, Tryz.ntmps117
      go_wp2_with fail
      go_loopw [17] (fun i wr => ∃ k : Nat, k ≤ l.length ∧ i = .int .i64 k ∧ UpTo l k ∧ Below w.heap.size w wr) (fun i _ => l.length - (RowKit.intOf i).toNat)
      case atStart => exact ⟨0, Nat.zero_le _, rfl, ⟨fun x hx => by simp at hx, List.Pairwise.nil⟩, Below.refl _ _⟩
      case round =>
        obtain ⟨k, hk, rfl, hok, hbl⟩ := hrel
        have hbs := hbl.size
        clear c0
        by_cases hlt : k < l.length
        · have hcb := HCC.out.below hbl hbb
          obtain ⟨c0, c1⟩ := hcb k hlt
          have hkI : (k : Int) < (l.length : Int) := by omega
          have hk00 : (0 : Int) ≤ (k : Int) := by omega
          by_cases hri : rightB l[k] = true
          · have hnx := upTo_next hlt hok hri
            obtain ⟨r1, r2, r3⟩ := right_cases hri
            have hHN := Lib.hid hnx
            have HB := Lib.hid (And.intro hok hbl)
            clear hok hbl hnx hri
            by_cases hk0 : k = 0
            · have hkn : ¬ ((0 : Int) < (k : Int)) := by omega
              have hkn2 : ¬ 0 < k := by omega
              have hk0H := Lib.hid hk0
              generalize l[k] = x at *
              clear hk0 hcb
              go_wp2_with fail
              obtain ⟨W0, hW0⟩ : ∃ W0, W0 = wr.alloc (iobj x) := ⟨_, rfl⟩
              have hbx := held_box hW0
              have h0 : Below wr.heap.size wr W0 := by subst hW0; exact (Below.refl _ _).alloc (Nat.le_refl _) _
              obtain ⟨d0, d1⟩ := hbx W0 (Below.refl _ _)
              rw [← hW0]
              have HW := Lib.hid (And.intro hbx h0)
              clear hW0 hbx h0
              have f0 := cell_gw d0
              have f1 := cell_gw d1
              refine wp_region_gw (by kernel_rfl) (by kernel_rfl) ?_
              repeat (refine wq_step (fun K hK => ?_); go_simp; (refine hK _ ?_; clear hK K))
              refine wq_nil ?_
              intro w1 hw1
              replace hw1 := gw_to hw1
              clear f0 f1 d0 d1 c0 c1
              go_wp2_with fail
              go_roundw
              case rel => exact ⟨k + 1, by omega, by go_num, hHN.out (fun h => absurd h (by have := hk0H.out; omega)), HB.out.2.trans ((HW.out.2.mono hbs).trans (hw1.mono (Nat.le_trans hbs HW.out.2.size)))⟩
              case measure => simp [RowKit.intOf]; omega
            · obtain ⟨j, rfl⟩ : ∃ j, k = j + 1 := ⟨k - 1, by omega⟩
              obtain ⟨b0, _⟩ := hcb j (by omega)
              have hjb : (0 : Int) ≤ j := by omega
              have hjl : (j : Int) < (l.length : Int) := by omega
              have hjl2 : j < l.length := by omega
              have hwj : IntKind.i64.wrap (j : Int) = (j : Int) := by rw [IntKind.wrap_i64]; omega
              clear hcb hk0
              cases hlk : ltK l[j].key l[j + 1].key
              · have HTF := Lib.hid (HT.out.symm.trans (decide_eq_false fun h2 => by have h3 := h2.2.2.at (i := j) (j := j + 1) (by omega) (by omega); rw [hlk] at h3; cases h3))
                generalize l[j + 1] = x at *
                generalize l[j] = y at *
                unfold ltK at hlk
                go_wp2_with fail
                obtain ⟨W0, hW0⟩ : ∃ W0, W0 = wr.alloc (iobj x) := ⟨_, rfl⟩
                have hbx := held_box hW0
                have h0 : Below wr.heap.size wr W0 := by subst hW0; exact (Below.refl _ _).alloc (Nat.le_refl _) _
                obtain ⟨d0, d1⟩ := hbx W0 (Below.refl _ _)
                have e4 : W0.cell? ⟨b, off + j * 2, none⟩ = some (.string y.key) := (h0.cell (p := ⟨b, off + j * 2, none⟩) (Nat.lt_of_lt_of_le hbb hbs)).trans b0
                rw [← hW0]
                have HW := Lib.hid (And.intro hbx h0)
                clear hW0 hbx h0
                have f0 := cell_gw d0
                have f1 := cell_gw d1
                have f4 := cell_gw e4
                refine wp_region_gw (by kernel_rfl) (by kernel_rfl) ?_
                repeat (refine wq_step (fun K hK => ?_); go_simp; (refine hK _ ?_; clear hK K))
                refine wq_nil ?_
                intro w1 hw1
                replace hw1 := gw_to hw1
                clear f0 f1 f4 e4 b0 d0 d1 c0 c1
                go_wp2_with fail
                go_ret
                exact ⟨ret_bool HTF.out.symm, HB.out.2.trans ((HW.out.2.mono hbs).trans (hw1.mono (Nat.le_trans hbs HW.out.2.size)))⟩
              · have hHN2 := Lib.hid (hHN.out (fun _ => hlk))
                clear hHN
                generalize l[j + 1] = x at *
                generalize l[j] = y at *
                unfold ltK at hlk
                go_wp2_with fail
                obtain ⟨W0, hW0⟩ : ∃ W0, W0 = wr.alloc (iobj x) := ⟨_, rfl⟩
                have hbx := held_box hW0
                have h0 : Below wr.heap.size wr W0 := by subst hW0; exact (Below.refl _ _).alloc (Nat.le_refl _) _
                obtain ⟨d0, d1⟩ := hbx W0 (Below.refl _ _)
                have e4 : W0.cell? ⟨b, off + j * 2, none⟩ = some (.string y.key) := (h0.cell (p := ⟨b, off + j * 2, none⟩) (Nat.lt_of_lt_of_le hbb hbs)).trans b0
                rw [← hW0]
                have HW := Lib.hid (And.intro hbx h0)
                clear hW0 hbx h0
                have f0 := cell_gw d0
                have f1 := cell_gw d1
                have f4 := cell_gw e4
                refine wp_region_gw (by kernel_rfl) (by kernel_rfl) ?_
                repeat (refine wq_step (fun K hK => ?_); go_simp; (refine hK _ ?_; clear hK K))
                refine wq_nil ?_
                intro w1 hw1
                replace hw1 := gw_to hw1
                clear f0 f1 f4 e4 b0 d0 d1 c0 c1
                go_wp2_with fail
                go_roundw
                case rel => exact ⟨j + 1 + 1, by omega, by go_num, hHN2.out, HB.out.2.trans ((HW.out.2.mono hbs).trans (hw1.mono (Nat.le_trans hbs HW.out.2.size)))⟩
                case measure => simp [RowKit.intOf]; omega
          · have HTF := Lib.hid (HT.out.symm.trans (decide_eq_false fun h => hri (h.2.1 _ (List.getElem_mem hlt))))
            have hno : l[k].page < 2 ∨ (2 ≤ l[k].page ∧ 4294967295 < l[k].page) ∨ (2 ≤ l[k].page ∧ l[k].page ≤ 4294967295 ∧ (40 : Int) < l[k].key.size) := by
              rcases Int.lt_or_le l[k].page 2 with h | h
              · exact .inl h
              · rcases Int.lt_or_le 4294967295 l[k].page with h2 | h2
                · exact .inr (.inl ⟨h, h2⟩)
                · refine .inr (.inr ⟨h, h2, ?_⟩)
                  rcases Nat.lt_or_ge 40 l[k].key.size with h3 | h3
                  · omega
                  · exact absurd (decide_eq_true ⟨h, h2, h3⟩) hri
            generalize l[k] = x at *
            have HB := Lib.hid hbl
            clear hok hri hcb hbl
            rcases hno with h | ⟨h, h2⟩ | ⟨h, h2, h3⟩
            all_goals
              go_wp2_with fail
              go_ret
              exact ⟨ret_bool HTF.out.symm, HB.out.trans (((Below.refl _ _).alloc (Nat.le_refl _) _).mono hbs)⟩
        · obtain rfl : k = l.length := by omega
          obtain ⟨h1, h2⟩ := hok
          rw [List.take_length] at h1 h2
          have HTF := Lib.hid (HT.out.symm.trans (decide_eq_true (okl_is hpos HK0.out h1 h2)))
          have HB := Lib.hid hbl
          clear h1 h2 hbl
          go_wp2_with fail
          go_ret
          exact ⟨ret_bool HTF.out.symm, HB.out⟩
    · have HTF := Lib.hid (HT.out.symm.trans (decide_eq_false fun h => hk0 (h.head hpos)))
      simp only [Nat.zero_mul, Nat.add_zero] at c0
      have hne : (l[0].key.toList == ([] : List UInt8)) = false := by
        rw [beq_eq_false_iff_ne]
        intro h
        exact hk0 (toList_inj (h.trans (by rw [Lib.toList_data])))
      generalize l[0].key = x at *
      clear h0 c1 hcell
      go_enter Tryz.func117, Tryz.ntmps117
      go_wp2_with fail
      go_ret
      exact ⟨ret_bool HTF.out.symm, Below.refl _ _⟩
end Go.Proofs.YtpfifmjcmpankaaGreat.BR
