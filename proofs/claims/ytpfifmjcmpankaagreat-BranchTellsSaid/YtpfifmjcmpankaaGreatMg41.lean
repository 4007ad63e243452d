/-
  Walks over the document's own answers to chapter 9: PutBranch.
-/
import Derived.Test.YtpfifmjcmpankaaGreatMg37
namespace Go.Proofs.YtpfifmjcmpankaaGreat.BR
open Go.RowKit Go.Lib

theorem row_form8 {w : World} {base : Nat} {v : Value} {m : List UInt8} (h : Row w base v m) : ∃ A c, v = .slice A m.length c := by
  rcases h.2 with ⟨rfl, h0⟩ | ⟨g, cap, cur, rfl, _⟩
  · exact ⟨none, 0, by rw [h0]⟩
  · exact ⟨_, _, rfl⟩
theorem putB_no {l : List Chd} (h : ¬ OKL l) : putB l = [] ∧ putE l = 1 := by
  unfold putB putE
  rw [if_neg (fun h2 => h h2.1), if_neg h]
  exact ⟨rfl, rfl⟩

set_option maxRecDepth 100000 in
set_option maxHeartbeats 4000000 in
theorem refPutLeaf_any (v : Value) (l : List Chd) (w : World) (hr : ReadsIt w w.heap.size v l) (hf : ∀ x ∈ l, x.fair) (hl : l.length ≤ 100000) :
    Calls Tryz.prog 32 #[v] w fun e w' => e = .returned (.tuple #[.string ⟨(putB l).toArray⟩, .int .i64 (putE l)]) ∧ Below w.heap.size w w' := by
  obtain ⟨A, c, rfl, _, _, _, hc⟩ := hr
  obtain ⟨PB, hPB⟩ : ∃ S : ByteArray, (⟨(putB l).toArray⟩ : ByteArray) = S := ⟨_, rfl⟩
  obtain ⟨PE, hPE⟩ : ∃ E, putE l = E := ⟨_, rfl⟩
  rw [hPB, hPE]
  have HP := Lib.hid (And.intro hPB hPE)
  have hbad : ¬ OKL l → PB = ⟨#[]⟩ ∧ PE = 1 := fun h => by
    have h3 := putB_no h
    rw [← HP.out.1, ← HP.out.2, h3.1, h3.2]
    exact ⟨rfl, rfl⟩
  have HBAD := Lib.hid hbad
  have HC := Lib.hid (And.intro hc hf)
  obtain ⟨n, hn⟩ : ∃ n, l.length = n := ⟨_, rfl⟩
  rw [hn] at hl ⊢
  have HN := Lib.hid hn
  clear hPB hPE hc hf hn hbad
  by_cases hn0 : n = 0
  · obtain ⟨rfl, rfl⟩ := HBAD.out (fun h => by have := h.pos; have := HN.out; omega)
    have hz : ((n : Int) == 0) = true := by rw [hn0]; rfl
    clear hn0
    go_enter Tryz.func32, Tryz.ntmps32
    go_wp2_with fail
    go_ret2
    exact ⟨rfl, Below.refl _ _⟩
  have hz : ((n : Int) == 0) = false := by rw [beq_eq_false_iff_ne]; omega
  have hnpos : 0 < n := by omega
  clear hn0
  go_enter Tryz.func32, Tryz.ntmps32
  go_wp2_with fail
  go_loopw [4, 5] (fun bv i wr => ∃ k : Nat, k ≤ n ∧ i = .int .i64 k ∧ Row wr w.heap.size bv (leafB (l.take k)) ∧ UpTo l k ∧ (0 < k → ∃ h : 0 < l.length, l[0].key = ⟨#[]⟩) ∧ (leafB (l.take k)).length ≤ k * 1000000 ∧ Below w.heap.size w wr) (fun _ i _ => n - (RowKit.intOf i).toNat)
  case atStart => exact ⟨0, Nat.zero_le _, rfl, Row.nil_ _ _, ⟨fun x hx => by simp at hx, List.Pairwise.nil⟩, fun h => absurd h (by omega), by simp [leafB], Below.refl _ _⟩
  case round =>
    obtain ⟨k, hk, rfl, hrow, hok, hhd, hbk, hbl⟩ := hrel
    have hbs := hbl.size
    by_cases hlt : k < n
    · obtain ⟨hc, hf⟩ := HC.out
      have hn := HN.out
      have hkl : k < l.length := by omega
      obtain ⟨b, off, rfl, hbb, hcell⟩ := hc (by omega)
      obtain ⟨c0, c1⟩ := (hcell.below hbl hbb) k hkl
      have hx := hf l[k] (by simp)
      have hno1 : rightB l[k] = false → PB = ⟨#[]⟩ ∧ PE = 1 := fun h => HBAD.out (fun h2 => by have := h2.2.1 l[k] (by simp); rw [h] at this; cases this)
      have hlf : leafB (l.take (k + 1)) = leafB (l.take k) ++ itemB l[k] := by rw [take_snoc1 l k hkl, leafB_snoc]
      have hltI : (k : Int) < n := by omega
      have HB := Lib.hid hbl
      have HL : Hid True := Lib.hid trivial
      by_cases hpg : 2 ≤ l[k].page ∧ l[k].page ≤ 4294967295
      · obtain ⟨hp1, hp2⟩ := hpg
        have hIl := item_long hx
        have hIl0 := hIl
        have hI := fun W => refItem_any l[k] W hx
        have hSl := itemS_size l[k]
        have hSd : (itemS l[k]).data.toList = itemB l[k] := by simp [itemS]
        obtain ⟨S, hS⟩ : ∃ S, itemS l[k] = S := ⟨_, rfl⟩
        rw [hS] at hSl hSd
        simp only [hS] at hI
        have HI := Lib.hid hI
        have hkm : k * 1000000 ≤ 100000000000 := by omega
        rw [← hSl] at hIl
        by_cases hk0 : k = 0
        · by_cases hke : l[k].key = ⟨#[]⟩
          · have hri : rightB l[k] = true := decide_eq_true ⟨hp1, hp2, by rw [hke]; decide⟩
            have hok1 := upTo_next hkl hok hri (fun h => absurd h (by omega))
            have hh1 : 0 < k + 1 → ∃ h : 0 < l.length, l[0].key = ⟨#[]⟩ := fun _ => ⟨by omega, by subst hk0; exact hke⟩
            have HLF := Lib.hid (And.intro hlf (And.intro hSd (And.intro hok1 (And.intro hIl0 hh1))))
            have hne : (l[k].key.toList == ([] : List UInt8)) = true := by rw [hke, Lib.toList_data]; rfl
            generalize l[k] = x at *
            have hq1 : ((k : Int) == 0) = true := by rw [beq_iff_eq]; omega
            have hk1 : ¬ ((0 : Int) < (k : Int)) := by omega
            have hk2 : ¬ 0 < k := by omega
            clear hc hf hn hcell hx hno1 hlf hok hbl hS hSd hok1 hI hk0 hSl hIl0 hri hh1 hhd hke
            go_wp2_with fail
            obtain ⟨W0, hW0⟩ : ∃ W0, W0 = wr.alloc (iobj x) := ⟨_, rfl⟩
            have hbx := held_box hW0
            have h0 : Below wr.heap.size wr W0 := by subst hW0; exact (Below.refl _ _).alloc (Nat.le_refl _) _
            obtain ⟨d0, d1⟩ := hbx W0 (Below.refl _ _)
            rw [← hW0]
            have HW := Lib.hid (And.intro hbx h0)
            clear hW0 hbx h0
            have f0 := cell_gw d0
            have f1 := cell_gw d1
            refine wp_region_gw (by kernel_rfl) (by kernel_rfl) ?_
            repeat (refine wq_step (fun K hK => ?_); go_simp; first | (refine hK _ ?_; clear hK K) | (apply Exists.intro; refine ⟨fun _ => ?_, hK _ ?_⟩; (go_at_call 57; ((with_reducible exact Calls.gw_of (HL.out _)))); clear hK K))
            refine wq_nil ?_
            intro w1 hw1
            replace hw1 := gw_to hw1
            obtain ⟨x0, x1⟩ := HW.out.1 w1 hw1
            have hrow1 : Row w1 w.heap.size _ _ := hrow.kept (grownBy_of_below (row := none) (HW.out.2.trans (hw1.mono HW.out.2.size))) (by cases Value.ownBlock u4 <;> simp)
            have hbw1 := HB.out.trans ((HW.out.2.mono hbs).trans (hw1.mono (Nat.le_trans hbs HW.out.2.size)))
            have hs1 := hbw1.size
            have HB1 := Lib.hid hbw1
            clear hrow hw1 hbw1 d0 d1 f0 f1 c0 c1
            go_wp2_with fail
            refine (HI.out _).mono ?_
            rintro e w2 ⟨rfl, hb2⟩
            have hrow2 : Row w2 w.heap.size _ _ := hrow1.kept (grownBy_of_below (row := none) hb2) (by cases Value.ownBlock u4 <;> simp)
            have hs2 := hb2.size
            have HB2 := Lib.hid (HB1.out.trans (hb2.mono hs1))
            clear hrow1 x0 x1 hb2
            go_wp2_with (at_builtin; refine append_str rfl _ _ rfl w.heap.size _ u4 _ rfl hrow2 S rfl (by omega) (by omega) (by omega) ?_; intro b3 w3 hrow3 hb3)
            go_roundw
            case rel => exact ⟨k + 1, by omega, by go_num, by rw [HLF.out.1, ← HLF.out.2.1]; exact hrow3, HLF.out.2.2.1, HLF.out.2.2.2.2, by rw [HLF.out.1, List.length_append]; have := HLF.out.2.2.2.1; omega, HB2.out.trans hb3⟩
            case measure => simp [RowKit.intOf]; omega
          · obtain ⟨rfl, rfl⟩ := HBAD.out (fun h2 => hke (by subst hk0; exact h2.head hkl))
            have hne : (l[k].key.toList == ([] : List UInt8)) = false := by
              rw [beq_eq_false_iff_ne]
              intro h
              exact hke (toList_inj (h.trans (by rw [Lib.toList_data])))
            generalize l[k] = x at *
            have hq1 : ((k : Int) == 0) = true := by rw [beq_iff_eq]; omega
            clear hc hf hn hcell hx hno1 hlf hok hbl hS hSd hI hk0 hSl hIl0 hke hrow hbk hhd
            go_wp2_with fail
            obtain ⟨W0, hW0⟩ : ∃ W0, W0 = wr.alloc (iobj x) := ⟨_, rfl⟩
            have hbx := held_box hW0
            have h0 : Below wr.heap.size wr W0 := by subst hW0; exact (Below.refl _ _).alloc (Nat.le_refl _) _
            obtain ⟨d0, d1⟩ := hbx W0 (Below.refl _ _)
            rw [← hW0]
            have HW := Lib.hid (And.intro hbx h0)
            clear hW0 hbx h0
            have f0 := cell_gw d0
            have f1 := cell_gw d1
            refine wp_region_gw (by kernel_rfl) (by kernel_rfl) ?_
            repeat (refine wq_step (fun K hK => ?_); go_simp; first | (refine hK _ ?_; clear hK K) | (apply Exists.intro; refine ⟨fun _ => ?_, hK _ ?_⟩; (go_at_call 57; ((with_reducible exact Calls.gw_of (HL.out _)))); clear hK K))
            refine wq_nil ?_
            intro w1 hw1
            replace hw1 := gw_to hw1
            go_wp2
            go_ret2
            exact ⟨rfl, HB.out.trans ((HW.out.2.mono hbs).trans (hw1.mono (Nat.le_trans hbs HW.out.2.size)))⟩
        · obtain ⟨j, rfl⟩ : ∃ j, k = j + 1 := ⟨k - 1, by omega⟩
          obtain ⟨b0, _⟩ := (hcell.below hbl hbb) j (by omega)
          have hjb : (0 : Int) ≤ j := by omega
          have hjl : (j : Int) < (n : Int) := by omega
          have hjl2 : j < n := by omega
          have hj1 : (0 : Int) ≤ (j : Int) + 1 := by omega
          have hj2 : ((j : Int) + 1).toNat = j + 1 := by omega
          have hj3 : (j : Int) + 1 < (n : Int) := by omega
          have hj4 : (0 : Int) < (j : Int) + 1 := by omega
          have hq1 : ((j : Int) + 1 == 0) = false := by rw [beq_eq_false_iff_ne]; omega
          have hwj : IntKind.i64.wrap (j : Int) = (j : Int) := by rw [IntKind.wrap_i64]; omega
          have hLs := fun W => less_any l[j].key l[j + 1].key W (by have := (hf l[j] (by simp)).1; omega) (by have := hx.1; omega)
          by_cases hs1 : l[j + 1].key.size < 1
          · obtain ⟨rfl, rfl⟩ := HBAD.out (fun h2 => by
              have h3 := lt_of_empty (h2.2.2.at (i := j) (j := j + 1) (by omega) (by omega))
              exact h3 (ByteArray.ext (Array.eq_empty_of_size_eq_zero (by have : l[j + 1].key.data.size = l[j + 1].key.size := rfl; omega))))
            generalize l[j + 1] = x at *
            generalize l[j] = y at *
            have hs1I : (x.key.size : Int) < 1 := by omega
            have HL := Lib.hid hLs
            clear hc hf hn hcell hx hno1 hlf hok hbl hS hSd hI hk0 hSl hIl0 hrow hbk hhd hLs
            go_wp2_with fail
            obtain ⟨W0, hW0⟩ : ∃ W0, W0 = wr.alloc (iobj x) := ⟨_, rfl⟩
            have hbx := held_box hW0
            have h0 : Below wr.heap.size wr W0 := by subst hW0; exact (Below.refl _ _).alloc (Nat.le_refl _) _
            obtain ⟨d0, d1⟩ := hbx W0 (Below.refl _ _)
            have e4 : W0.cell? ⟨b, off + j * 2, none⟩ = some (.string y.key) := (h0.cell (p := ⟨b, off + j * 2, none⟩) (Nat.lt_of_lt_of_le hbb hbs)).trans b0
            rw [← hW0]
            have HW := Lib.hid (And.intro hbx h0)
            clear hW0 hbx h0
            have f0 := cell_gw d0
            have f1 := cell_gw d1
            have f4 := cell_gw e4
            refine wp_region_gw (by kernel_rfl) (by kernel_rfl) ?_
            repeat (refine wq_step (fun K hK => ?_); go_simp; first | (refine hK _ ?_; clear hK K) | (apply Exists.intro; refine ⟨fun _ => ?_, hK _ ?_⟩; (go_at_call 57; ((with_reducible exact Calls.gw_of (HL.out _)))); clear hK K))
            refine wq_nil ?_
            intro w1 hw1
            replace hw1 := gw_to hw1
            go_wp2
            go_ret2
            exact ⟨rfl, HB.out.trans ((HW.out.2.mono hbs).trans (hw1.mono (Nat.le_trans hbs HW.out.2.size)))⟩
          by_cases hs2 : 40 < l[j + 1].key.size
          · obtain ⟨rfl, rfl⟩ := hno1 (by
              cases h : rightB l[j + 1]
              · rfl
              · have := (right_cases h).2.2; omega)
            generalize l[j + 1] = x at *
            generalize l[j] = y at *
            have hs1I : ¬ (x.key.size : Int) < 1 := by omega
            have hs2I : (40 : Int) < x.key.size := by omega
            have HL := Lib.hid hLs
            clear hc hf hn hcell hx hno1 hlf hok hbl hS hSd hI hk0 hSl hIl0 hrow hbk hhd hLs
            go_wp2_with fail
            obtain ⟨W0, hW0⟩ : ∃ W0, W0 = wr.alloc (iobj x) := ⟨_, rfl⟩
            have hbx := held_box hW0
            have h0 : Below wr.heap.size wr W0 := by subst hW0; exact (Below.refl _ _).alloc (Nat.le_refl _) _
            obtain ⟨d0, d1⟩ := hbx W0 (Below.refl _ _)
            have e4 : W0.cell? ⟨b, off + j * 2, none⟩ = some (.string y.key) := (h0.cell (p := ⟨b, off + j * 2, none⟩) (Nat.lt_of_lt_of_le hbb hbs)).trans b0
            rw [← hW0]
            have HW := Lib.hid (And.intro hbx h0)
            clear hW0 hbx h0
            have f0 := cell_gw d0
            have f1 := cell_gw d1
            have f4 := cell_gw e4
            refine wp_region_gw (by kernel_rfl) (by kernel_rfl) ?_
            repeat (refine wq_step (fun K hK => ?_); go_simp; first | (refine hK _ ?_; clear hK K) | (apply Exists.intro; refine ⟨fun _ => ?_, hK _ ?_⟩; (go_at_call 57; ((with_reducible exact Calls.gw_of (HL.out _)))); clear hK K))
            refine wq_nil ?_
            intro w1 hw1
            replace hw1 := gw_to hw1
            go_wp2
            go_ret2
            exact ⟨rfl, HB.out.trans ((HW.out.2.mono hbs).trans (hw1.mono (Nat.le_trans hbs HW.out.2.size)))⟩
          have hri : rightB l[j + 1] = true := decide_eq_true ⟨hp1, hp2, by omega⟩
          cases hlk : ltK l[j].key l[j + 1].key
          · obtain ⟨rfl, rfl⟩ := HBAD.out (fun h2 => by have h3 := h2.2.2.at (i := j) (j := j + 1) (by omega) (by omega); rw [hlk] at h3; cases h3)
            simp only [hlk] at hLs
            generalize l[j + 1] = x at *
            generalize l[j] = y at *
            have hs1I : ¬ (x.key.size : Int) < 1 := by omega
            have hs2I : ¬ (40 : Int) < x.key.size := by omega
            have HL := Lib.hid hLs
            clear hc hf hn hcell hx hno1 hlf hok hbl hS hSd hI hk0 hSl hIl0 hrow hbk hhd hLs hlk hri
            go_wp2_with fail
            obtain ⟨W0, hW0⟩ : ∃ W0, W0 = wr.alloc (iobj x) := ⟨_, rfl⟩
            have hbx := held_box hW0
            have h0 : Below wr.heap.size wr W0 := by subst hW0; exact (Below.refl _ _).alloc (Nat.le_refl _) _
            obtain ⟨d0, d1⟩ := hbx W0 (Below.refl _ _)
            have e4 : W0.cell? ⟨b, off + j * 2, none⟩ = some (.string y.key) := (h0.cell (p := ⟨b, off + j * 2, none⟩) (Nat.lt_of_lt_of_le hbb hbs)).trans b0
            rw [← hW0]
            have HW := Lib.hid (And.intro hbx h0)
            clear hW0 hbx h0
            have f0 := cell_gw d0
            have f1 := cell_gw d1
            have f4 := cell_gw e4
            refine wp_region_gw (by kernel_rfl) (by kernel_rfl) ?_
            repeat (refine wq_step (fun K hK => ?_); go_simp; first | (refine hK _ ?_; clear hK K) | (apply Exists.intro; refine ⟨fun _ => ?_, hK _ ?_⟩; (go_at_call 57; ((with_reducible exact Calls.gw_of (HL.out _)))); clear hK K))
            refine wq_nil ?_
            intro w1 hw1
            replace hw1 := gw_to hw1
            go_wp2
            go_ret2
            exact ⟨rfl, HB.out.trans ((HW.out.2.mono hbs).trans (hw1.mono (Nat.le_trans hbs HW.out.2.size)))⟩
          · have hok1 := upTo_next hkl hok hri (fun _ => hlk)
            have hh1 : 0 < j + 1 + 1 → ∃ h : 0 < l.length, l[0].key = ⟨#[]⟩ := fun _ => hhd (by omega)
            simp only [hlk] at hLs
            have HLF := Lib.hid (And.intro hlf (And.intro hSd (And.intro hok1 (And.intro hIl0 hh1))))
            generalize l[j + 1] = x at *
            generalize l[j] = y at *
            have hs1I : ¬ (x.key.size : Int) < 1 := by omega
            have hs2I : ¬ (40 : Int) < x.key.size := by omega
            have HL := Lib.hid hLs
            clear hc hf hn hcell hx hno1 hlf hok hbl hS hSd hok1 hI hk0 hSl hIl0 hLs hlk hri hh1 hhd
            go_wp2_with fail
            obtain ⟨W0, hW0⟩ : ∃ W0, W0 = wr.alloc (iobj x) := ⟨_, rfl⟩
            have hbx := held_box hW0
            have h0 : Below wr.heap.size wr W0 := by subst hW0; exact (Below.refl _ _).alloc (Nat.le_refl _) _
            obtain ⟨d0, d1⟩ := hbx W0 (Below.refl _ _)
            have e4 : W0.cell? ⟨b, off + j * 2, none⟩ = some (.string y.key) := (h0.cell (p := ⟨b, off + j * 2, none⟩) (Nat.lt_of_lt_of_le hbb hbs)).trans b0
            rw [← hW0]
            have HW := Lib.hid (And.intro hbx h0)
            clear hW0 hbx h0
            have f0 := cell_gw d0
            have f1 := cell_gw d1
            have f4 := cell_gw e4
            refine wp_region_gw (by kernel_rfl) (by kernel_rfl) ?_
            repeat (refine wq_step (fun K hK => ?_); go_simp; first | (refine hK _ ?_; clear hK K) | (apply Exists.intro; refine ⟨fun _ => ?_, hK _ ?_⟩; (go_at_call 57; ((with_reducible exact Calls.gw_of (HL.out _)))); clear hK K))
            refine wq_nil ?_
            intro w1 hw1
            replace hw1 := gw_to hw1
            obtain ⟨x0, x1⟩ := HW.out.1 w1 hw1
            have hrow1 : Row w1 w.heap.size _ _ := hrow.kept (grownBy_of_below (row := none) (HW.out.2.trans (hw1.mono HW.out.2.size))) (by cases Value.ownBlock u4 <;> simp)
            have hbw1 := HB.out.trans ((HW.out.2.mono hbs).trans (hw1.mono (Nat.le_trans hbs HW.out.2.size)))
            have hs1 := hbw1.size
            have HB1 := Lib.hid hbw1
            clear hrow hw1 hbw1 d0 d1 f0 f1 c0 c1 e4 f4 b0
            go_wp2_with fail
            refine (HI.out _).mono ?_
            rintro e w2 ⟨rfl, hb2⟩
            have hrow2 : Row w2 w.heap.size _ _ := hrow1.kept (grownBy_of_below (row := none) hb2) (by cases Value.ownBlock u4 <;> simp)
            have hs2 := hb2.size
            have HB2 := Lib.hid (HB1.out.trans (hb2.mono hs1))
            clear hrow1 x0 x1 hb2
            go_wp2_with (at_builtin; refine append_str rfl _ _ rfl w.heap.size _ u4 _ rfl hrow2 S rfl (by omega) (by omega) (by omega) ?_; intro b3 w3 hrow3 hb3)
            go_roundw
            case rel => exact ⟨j + 1 + 1, by omega, by go_num, by rw [HLF.out.1, ← HLF.out.2.1]; exact hrow3, HLF.out.2.2.1, HLF.out.2.2.2.2, by rw [HLF.out.1, List.length_append]; have := HLF.out.2.2.2.1; omega, HB2.out.trans hb3⟩
            case measure => simp [RowKit.intOf]; omega
      · obtain ⟨rfl, rfl⟩ := hno1 (by
          cases h : rightB l[k]
          · rfl
          · have := right_cases h; exact absurd ⟨this.1, this.2.1⟩ hpg)
        have hno : l[k].page < 2 ∨ (2 ≤ l[k].page ∧ 4294967295 < l[k].page) := by omega
        generalize l[k] = x at *
        clear hc hf hn hcell hx hno1 hlf hok hbl hrow hbk hhd hpg
        rcases hno with h | ⟨h, h2⟩
        · skip
          go_wp2_with fail
          obtain ⟨W0, hW0⟩ : ∃ W0, W0 = wr.alloc (iobj x) := ⟨_, rfl⟩
          have hbx := held_box hW0
          have h0 : Below wr.heap.size wr W0 := by subst hW0; exact (Below.refl _ _).alloc (Nat.le_refl _) _
          obtain ⟨d0, d1⟩ := hbx W0 (Below.refl _ _)
          rw [← hW0]
          have HW := Lib.hid (And.intro hbx h0)
          clear hW0 hbx h0
          have f0 := cell_gw d0
          have f1 := cell_gw d1
          refine wp_region_gw (by kernel_rfl) (by kernel_rfl) ?_
          repeat (refine wq_step (fun K hK => ?_); go_simp; first | (refine hK _ ?_; clear hK K) | (apply Exists.intro; refine ⟨fun _ => ?_, hK _ ?_⟩; (go_at_call 57; ((with_reducible exact Calls.gw_of (HL.out _)))); clear hK K))
          refine wq_nil ?_
          intro w1 hw1
          replace hw1 := gw_to hw1
          go_wp2
          go_ret2
          exact ⟨rfl, HB.out.trans ((HW.out.2.mono hbs).trans (hw1.mono (Nat.le_trans hbs HW.out.2.size)))⟩
        · skip
          go_wp2_with fail
          obtain ⟨W0, hW0⟩ : ∃ W0, W0 = wr.alloc (iobj x) := ⟨_, rfl⟩
          have hbx := held_box hW0
          have h0 : Below wr.heap.size wr W0 := by subst hW0; exact (Below.refl _ _).alloc (Nat.le_refl _) _
          obtain ⟨d0, d1⟩ := hbx W0 (Below.refl _ _)
          rw [← hW0]
          have HW := Lib.hid (And.intro hbx h0)
          clear hW0 hbx h0
          have f0 := cell_gw d0
          have f1 := cell_gw d1
          refine wp_region_gw (by kernel_rfl) (by kernel_rfl) ?_
          repeat (refine wq_step (fun K hK => ?_); go_simp; first | (refine hK _ ?_; clear hK K) | (apply Exists.intro; refine ⟨fun _ => ?_, hK _ ?_⟩; (go_at_call 57; ((with_reducible exact Calls.gw_of (HL.out _)))); clear hK K))
          refine wq_nil ?_
          intro w1 hw1
          replace hw1 := gw_to hw1
          go_wp2
          go_ret2
          exact ⟨rfl, HB.out.trans ((HW.out.2.mono hbs).trans (hw1.mono (Nat.le_trans hbs HW.out.2.size)))⟩
    · obtain rfl : k = n := by omega
      have hln := HN.out
      subst hln
      obtain ⟨hu1, hu2⟩ := hok
      rw [List.take_length] at hrow hbk hu1 hu2
      obtain ⟨h0, hh0⟩ := hhd hnpos
      have hok := okl_is h0 hh0 hu1 hu2
      have hszl : (leafB l).length = sz l := rfl
      obtain ⟨Ab, cb, hbv⟩ := row_form8 hrow
      subst hbv
      clear hu1 hu2 hh0 h0 hhd
      by_cases h240 : sz l ≤ 240
      · have p1 : PB = ⟨(leafB l).toArray⟩ := by rw [← HP.out.1]; unfold putB; rw [if_pos ⟨hok, h240⟩]
        have p2 : PE = 0 := by rw [← HP.out.2]; unfold putE; rw [if_pos hok, if_pos h240]
        subst p1 p2
        have hs1 := row_string hrow
        rw [hszl] at hs1
        have hb240 : ((leafB l).length : Int) ≤ 240 := by omega
        have HF := Lib.hid hbl
        clear hok hbl
        go_wp2_with fail
        go_ret2
        exact ⟨rfl, HF.out⟩
      · have p1 : PB = ⟨#[]⟩ := by rw [← HP.out.1]; unfold putB; rw [if_neg (fun h => h240 h.2)]
        have p2 : PE = 2 := by rw [← HP.out.2]; unfold putE; rw [if_pos hok, if_neg h240]
        subst p1 p2
        have hb241 : ¬ ((leafB l).length : Int) ≤ 240 := by omega
        have HF := Lib.hid hbl
        clear hok hbl
        go_wp2_with fail
        go_ret2
        exact ⟨rfl, HF.out⟩
end Go.Proofs.YtpfifmjcmpankaaGreat.BR
