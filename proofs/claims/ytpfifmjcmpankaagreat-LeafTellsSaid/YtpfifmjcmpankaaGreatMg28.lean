/-
  The statements' first call whose answer the document fixes.
-/
import Derived.Test.YtpfifmjcmpankaaGreatMg26
import Derived.Test.YtpfifmjcmpankaaGreatMg27
import Derived.Test.YtpfifmjcmpankaaGreatMg16
namespace Go.Proofs.YtpfifmjcmpankaaGreat
open Go.RowKit Go.Lib

abbrev sA : ByteArray := ⟨#[97]⟩
abbrev sB : ByteArray := ⟨#[98]⟩
abbrev sC : ByteArray := ⟨#[99]⟩
abbrev sOne : ByteArray := ⟨#[49]⟩
abbrev xA : Itm := ⟨sA, sOne, 0, 0⟩
abbrev xB : Itm := ⟨sB, sOne, 0, 0⟩
abbrev xC : Itm := ⟨sC, sOne, 0, 0⟩
theorem lt_ab : ltK sA sB = true := by unfold ltK; rw [Lib.toList_data, Lib.toList_data]; rfl
theorem lt_ac : ltK sA sC = true := by unfold ltK; rw [Lib.toList_data, Lib.toList_data]; rfl
theorem lt_bc : ltK sB sC = true := by unfold ltK; rw [Lib.toList_data, Lib.toList_data]; rfl
theorem lt_cb : ltK sC sB = false := by unfold ltK; rw [Lib.toList_data, Lib.toList_data]; rfl
theorem rise_ac : Rise [xA, xC] := by unfold Rise; simp [lt_ac]
theorem rise_abc : Rise [xA, xB, xC] := by unfold Rise; simp [lt_ac, lt_ab, lt_bc]
theorem lb_ac : lb [xA, xC] sB = 1 := by simp [lb, lt_ab, lt_cb]
theorem is_ac : isAt [xA, xC] sB = false := by
  unfold isAt
  rw [lb_ac]
  decide
theorem set_ac : setL [xA, xC] xB = [xA, xB, xC] := by
  unfold setL behind
  rw [show lb [xA, xC] xB.key = 1 from lb_ac, show isAt [xA, xC] xB.key = false from is_ac]
  rfl
theorem right_x {s : ByteArray} (h : s.size = 1) : rightB ⟨s, sOne, 0, 0⟩ = true := by
  unfold rightB
  simp only [h, if_true]
  decide
theorem item_x {s : ByteArray} (h : s.size = 1) : (itemB ⟨s, sOne, 0, 0⟩).length = 5 := by
  rw [item_val rfl, textB_small (by simp only [h]; omega), textB_small (show sOne.size ≤ 63 by decide)]
  simp only [h]
  rfl
theorem sz_abc : sz [xA, xB, xC] = 15 := by rw [sz_cons, sz_cons, sz_cons, item_x rfl, item_x rfl, item_x rfl]; rfl
theorem sz_ac : sz [xA, xC] = 10 := by rw [sz_cons, sz_cons, item_x rfl, item_x rfl]; rfl
theorem sz_a : sz [xA] = 5 := by rw [sz_cons, item_x rfl]; rfl
theorem sz_ab : sz [xA, xB] = 10 := by rw [sz_cons, sz_cons, item_x rfl, item_x rfl]; rfl
theorem half_abc : halfL [xA, xB, xC] = 1 := by
  have g1 : grOf [xA, xB, xC] 1 = 10 := by unfold grOf; rw [sz_abc, show [xA, xB, xC].take 1 = [xA] from rfl, sz_a]; rfl
  have g2 : grOf [xA, xB, xC] 2 = 10 := by unfold grOf; rw [sz_abc, show [xA, xB, xC].take 2 = [xA, xB] from rfl, sz_ab]; rfl
  unfold halfL
  rw [if_neg (by decide)]
  show (bestTo [xA, xB, xC] 2).2 = 1
  have h1 : bestTo [xA, xB, xC] 1 = (10, 1) := by
    rw [bestTo, if_pos (by show grOf _ 1 < sz _ + 1; rw [g1, sz_abc]; omega)]
    rw [g1]
  rw [bestTo, h1, if_neg (by show ¬ grOf _ 2 < 10; rw [g2]; omega)]
theorem okl_ac : OKL [xA, xC] := ⟨by intro x hx; simp at hx; rcases hx with rfl | rfl <;> exact right_x rfl, rise_ac⟩
theorem putE_ac : putE [xA, xC] = 0 := by unfold putE; rw [if_pos okl_ac, if_pos (by rw [sz_ac]; omega)]
theorem putB_ac : putB [xA, xC] = leafB [xA, xC] := by unfold putB; rw [if_pos ⟨okl_ac, by rw [sz_ac]; omega⟩]
theorem leaf_len : (leafB [xA, xC]).length = 10 := sz_ac
theorem leaf_ac {l : List Itm} (h : IsLeaf (leafB [xA, xC]) l) : l = [xA, xC] := leafB_inj h.1.1 okl_ac.1 h.2.2

set_option maxRecDepth 100000 in
set_option maxHeartbeats 2000000 in
theorem alive8_any (w : World) : Calls Tryz.prog 6 #[] w fun e w' => e = .returned (.bool true) ∧ Below w.heap.size w w' := by
  have hz : ∀ y ∈ [xB, xA, xC], y.key.size ≤ 281474976710656 ∧ y.val.size ≤ 281474976710656 := by intro y hy; simp at hy; rcases hy with rfl | rfl | rfl <;> decide
  have hrA := ReadsIt.built w [xA, xC] (by unfold maxLen; simp)
  have hb0 : Below w.heap.size w (w.alloc (.cells (ilist [xA, xC]).toArray 24)) := (Below.refl _ _).alloc (Nat.le_refl _) _
  have hF := find_any _ [xA, xC] sB (w.alloc (.cells (ilist [xA, xC]).toArray 24)) (by simpa using hrA) rise_ac (by decide)
  rw [lb_ac, is_ac] at hF
  have HF := Lib.hid hF
  have HR := Lib.hid (And.intro hrA (And.intro hb0 hz))
  clear hF hrA hb0 hz
  go_enter Tryz.func6, Tryz.ntmps6
  go_wp2_with fail
  refine HF.out.mono ?_
  rintro e w1 ⟨rfl, hb1⟩
  obtain ⟨hrA, hb0, hz⟩ := HR.out
  have hbw1 := hb0.trans (hb1.mono hb0.size)
  have hr1 : ReadsIt w1 w1.heap.size (.slice (some ⟨w.heap.size, 0, none⟩) 2 2) [xA, xC] := ReadsIt.grow hrA (by simpa using hb1) (by have := hb1.size; simpa using this)
  have hS := set_any _ [xA, xC] xB w1 hr1 rise_ac (by decide) hz
  rw [set_ac] at hS
  have HS := Lib.hid hS
  have H1 := Lib.hid (And.intro hbw1 hr1)
  clear hS hrA hb0 hbw1 hr1 hb1
  go_wp2_with fail
  refine HS.out.mono ?_
  rintro e w2 ⟨v2, rfl, hown2, hb2⟩
  have hr2 := row_readsIt hown2
  obtain ⟨A2, c2, rfl⟩ := hr2.form
  have hok3 : ∀ x ∈ [xA, xB, xC], x.ok := by intro y hy; simp at hy; rcases hy with rfl | rfl | rfl <;> exact right_ok (right_x rfl)
  have hz3 : ∀ y ∈ [xA, xB, xC], y.key.size ≤ 281474976710656 ∧ y.val.size ≤ 281474976710656 := fun y hy => hz y (by simp at hy ⊢; rcases hy with h | h | h <;> simp [h])
  have hP := split_any _ [xA, xB, xC] w2 hr2 hok3 (by rw [sz_abc]; omega) (by decide) hz3
  rw [half_abc] at hP
  have HP := Lib.hid hP
  have hbw2 := H1.out.1.trans (hb2.mono H1.out.1.size)
  have H2 := Lib.hid (And.intro hbw2 (And.intro hb2 (And.intro hown2 (And.intro (H1.out.2.grow hb2 hb2.size) hz))))
  clear hP hbw2 hb2 hown2 hr2 hok3 hz3 hz
  go_wp2_with fail
  refine HP.out.mono ?_
  rintro e w3 ⟨v3, v4, rfl, hown3, hown4, _, hb3⟩
  obtain ⟨A3, c3, hv3⟩ := (row_readsIt hown3).form
  obtain ⟨A4, c4, hv4⟩ := (row_readsIt hown4).form
  have l3 : ([xA, xB, xC].take 1).length = 1 := rfl
  have l4 : ([xA, xB, xC].drop 1).length = 2 := rfl
  rw [l3] at hv3
  rw [l4] at hv4
  subst hv3 hv4
  have hr3 := H2.out.2.2.2.1.grow hb3 hb3.size
  have hU := put_any _ [xA, xC] w3 hr3 (by decide)
  rw [putE_ac, putB_ac] at hU
  obtain ⟨S, hS⟩ : ∃ S : ByteArray, (⟨(leafB [xA, xC]).toArray⟩ : ByteArray) = S := ⟨_, rfl⟩
  have hSl : S.data.toList = leafB [xA, xC] := by rw [← hS]
  have hSz : S.size = 10 := by have := leaf_len; rw [← hSl] at this; simpa using this
  rw [hS] at hU
  have hbw3 := H2.out.1.trans (hb3.mono H2.out.1.size)
  have hown2' := row_kept (F := []) H2.out.2.2.1 (Kept.of_below hb3) (fun _ _ h => by simp at h)
  have HU := Lib.hid hU
  have H3 := Lib.hid (And.intro hbw3 (And.intro hown2' hr3))
  have HSS := Lib.hid (And.intro hSl hSz)
  clear hU hS hSl hSz hbw3 hown2' hr3 hb3 hown3 hown4 l3 l4
  go_wp2_with fail
  refine HU.out.mono ?_
  rintro e w4 ⟨rfl, hb4⟩
  have hG := get_any8 S w4 (by rw [HSS.out.2]; omega)
  rw [HSS.out.1] at hG
  have HG := Lib.hid hG
  have H4 := Lib.hid hb4
  clear hG hb4
  go_wp2_with fail
  refine HG.out.mono ?_
  rintro e w5 ⟨v5, ⟨l5, rfl, hl5, hown5, hb5⟩ | ⟨_, _, hno, _⟩⟩
  · obtain rfl := leaf_ac hl5
    obtain ⟨A5, c5, hv5⟩ := (row_readsIt hown5).form
    subst hv5
    have e2 : [xA, xC].length = 2 := rfl
    rw [e2]
    have hb35 : Below w3.heap.size w3 w5 := H4.out.trans (hb5.mono H4.out.size)
    have hown2 := row_kept (F := []) H3.out.2.1 (Kept.of_below hb35) (fun _ _ h => by simp at h)
    have hg2 : ∃ g, A2 = some ⟨g, 0, none⟩ := by
      rcases hown2.2 with ⟨_, h0⟩ | ⟨g, cap, cur, h, _⟩
      · simp at h0
      · cases h; exact ⟨g, rfl⟩
    obtain ⟨g2, rfl⟩ := hg2
    have q4 : w5.cell? ⟨g2, 4, none⟩ = some (.string sB) := hown2.cellAt 4 (by decide)
    have e4 := cell_gw q4
    have hr5 := H3.out.2.2.grow hb35 hb35.size
    have hZ := fun W (hb : Below w5.heap.size w5 W) => size_any _ [xA, xC] W (hr5.grow hb hb.size) (by intro y hy; simp at hy; rcases hy with rfl | rfl <;> exact right_ok (right_x rfl)) (by rw [sz_ac]; omega)
    simp only [sz_ac] at hZ
    have HZ := Lib.hid hZ
    have hbz : ((10 : Int) == (S.size : Int)) = true := by rw [HSS.out.2]; rfl
    have HF5 := Lib.hid (H3.out.1.trans (hb35.mono H3.out.1.size))
    clear hZ hr5 hown2 hb35 hb5 hown5 hl5 e2
    go_wp2_with fail
    refine (HZ.out _ (Below.refl _ _)).mono ?_
    rintro e w6 ⟨rfl, hw6⟩
    clear q4 e4
    go_wp2_with fail
    go_ret
    exact ⟨rfl, HF5.out.trans (hw6.mono HF5.out.size)⟩
  · exact absurd ⟨okl_ac, by rw [sz_ac]; omega, rfl⟩ (hno [xA, xC])
end Go.Proofs.YtpfifmjcmpankaaGreat
