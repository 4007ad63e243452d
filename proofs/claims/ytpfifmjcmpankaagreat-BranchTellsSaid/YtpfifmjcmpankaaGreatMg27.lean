/-
  The statements' first call whose answer the document fixes.
-/
import Derived.Test.YtpfifmjcmpankaaGreatMg22
import Derived.Test.YtpfifmjcmpankaaGreatMg25
import Derived.Test.YtpfifmjcmpankaaGreatMg26
import Derived.Test.YtpfifmjcmpankaaGreatMg17
namespace Go.Proofs.YtpfifmjcmpankaaGreat.BR
open Go.RowKit Go.Lib

abbrev sM : ByteArray := ⟨#[109]⟩
abbrev sA : ByteArray := ⟨#[97]⟩
abbrev sX : ByteArray := ⟨#[120]⟩
abbrev sC : ByteArray := ⟨#[99]⟩
abbrev sNo : ByteArray := ⟨#[]⟩
abbrev x0 : Chd := ⟨sNo, 2⟩
abbrev xM : Chd := ⟨sM, 3⟩
abbrev xX : Chd := ⟨sX, 7⟩
abbrev xC : Chd := ⟨sC, 8⟩
theorem lt_0m : ltK sNo sM = true := by unfold ltK; rw [Lib.toList_data, Lib.toList_data]; rfl
theorem lt_mm : ltK sM sM = false := ltK_irrefl _
theorem lt_am : ltK sA sM = true := by unfold ltK; rw [Lib.toList_data, Lib.toList_data]; rfl
theorem rise_0m : Rise [x0, xM] := by unfold Rise; simp [lt_0m]
theorem fnd_m : fnd [x0, xM] sM = 1 := by simp [fnd, lt_mm]
theorem fnd_a : fnd [x0, xM] sA = 0 := by simp [fnd, lt_am]
theorem repl_0m : replL [x0, xM] 0 [xX, xC] = [⟨sNo, 7⟩, xC, xM] := by
  have := replL_in (l := [x0, xM]) (i := 0) (by decide) [xX, xC]
  simpa [rawL, first] using this
theorem right_0 : rightB x0 = true := by unfold rightB; decide
theorem right_m : rightB xM = true := by unfold rightB; decide
theorem okl_0m : OKL [x0, xM] := ⟨rfl, by intro x hx; simp at hx; rcases hx with rfl | rfl; exact right_0; exact right_m, rise_0m⟩
theorem item_one {x : Chd} (h1 : x.key.size ≤ 63) (h2 : zigzag x.page < 128) : (itemB x).length = x.key.size + 2 := by
  rw [(item_len x).1, textB_small h1, uvarint_small h2]
  simp
theorem sz_0m : sz [x0, xM] = 5 := by
  rw [sz_cons, sz_cons, item_one (by decide) (by decide), item_one (by decide) (by decide)]
  rfl
theorem putE_0m : putE [x0, xM] = 0 := by unfold putE; rw [if_pos okl_0m, if_pos (by rw [sz_0m]; omega)]
theorem putB_0m : putB [x0, xM] = leafB [x0, xM] := by unfold putB; rw [if_pos ⟨okl_0m, by rw [sz_0m]; omega⟩]
theorem leaf_len : (leafB [x0, xM]).length = 5 := sz_0m
theorem leaf_0m {l : List Chd} (h : IsLeaf (leafB [x0, xM]) l) : l = [x0, xM] := leafB_inj h.1.2.1 okl_0m.2.1 h.2.2

set_option maxRecDepth 100000 in
set_option maxHeartbeats 2000000 in
theorem alive9_any (w : World) : Calls Tryz.prog 29 #[] w fun e w' => e = .returned (.bool true) ∧ Below w.heap.size w w' := by
  have hrA := ReadsIt.built w [x0, xM] (by unfold maxLen; simp)
  have hb0 : Below w.heap.size w (w.alloc (.cells (ilist [x0, xM]).toArray 131)) := (Below.refl _ _).alloc (Nat.le_refl _) _
  have hF := put_any _ [x0, xM] (w.alloc (.cells (ilist [x0, xM]).toArray 131)) (by simpa using hrA) (by decide)
  rw [putE_0m, putB_0m] at hF
  obtain ⟨S, hS⟩ : ∃ S : ByteArray, (⟨(leafB [x0, xM]).toArray⟩ : ByteArray) = S := ⟨_, rfl⟩
  have hSl : S.data.toList = leafB [x0, xM] := by rw [← hS]
  have hSz : S.size = 5 := by have := leaf_len; rw [← hSl] at this; simpa using this
  rw [hS] at hF
  have HF := Lib.hid hF
  have HSS := Lib.hid (And.intro hSl hSz)
  have HR := Lib.hid (And.intro hrA hb0)
  clear hF hrA hb0 hS hSl hSz
  go_enter Tryz.func29, Tryz.ntmps29
  go_wp2_with fail
  refine HF.out.mono ?_
  rintro e w1 ⟨rfl, hb1⟩
  obtain ⟨hrA, hb0⟩ := HR.out
  have hbw1 := hb0.trans (hb1.mono hb0.size)
  have hr1 : ReadsIt w1 w1.heap.size (.slice (some ⟨w.heap.size, 0, none⟩) 2 2) [x0, xM] := ReadsIt.grow hrA (by simpa using hb1) (by have := hb1.size; simpa using this)
  have hG := get_any8 S w1 (by rw [HSS.out.2]; omega)
  rw [HSS.out.1] at hG
  have HG := Lib.hid hG
  have H1 := Lib.hid (And.intro hbw1 hr1)
  clear hG hrA hb0 hbw1 hr1 hb1 HF
  go_wp2_with fail
  refine HG.out.mono ?_
  rintro e w5 ⟨v5, ⟨l5, rfl, hl5, hown5, hb5⟩ | ⟨_, _, hno, _⟩⟩
  · obtain rfl := leaf_0m hl5
    obtain ⟨A5, c5, hv5⟩ := (row_readsIt hown5).form
    subst hv5
    have e2 : [x0, xM].length = 2 := rfl
    rw [e2] at hown5 ⊢
    have hr5 := H1.out.2.grow hb5 hb5.size
    have hw5 := H1.out.1.trans (hb5.mono H1.out.1.size)
    have hrX := ReadsIt.built w5 [xX, xC] (by unfold maxLen; simp)
    have hbX : Below w5.heap.size w5 (w5.alloc (.cells (ilist [xX, xC]).toArray 131)) := (Below.refl _ _).alloc (Nat.le_refl _) _
    have hP := replace_any _ _ [x0, xM] [xX, xC] 0 (w5.alloc (.cells (ilist [xX, xC]).toArray 131)) (hr5.grow hbX hbX.size) (by simpa using hrX) ⟨by omega, by omega⟩ (by decide) (by decide) (by intro y hy; simp at hy; rcases hy with rfl | rfl <;> decide) (by intro y hy; simp at hy; rcases hy with rfl | rfl <;> decide)
    rw [repl_0m] at hP
    have HP := Lib.hid hP
    have H5 := Lib.hid (And.intro hw5 (And.intro hown5 (And.intro hr5 hbX)))
    clear hP hrX hbX hr5 hw5 hown5 hl5 e2 hb5
    go_wp2_with fail
    refine HP.out.mono ?_
    rintro e w6 ⟨v6, rfl, hown6, hb6⟩
    obtain ⟨A6, c6, hv6⟩ := (row_readsIt hown6).form
    subst hv6
    have e3 : [(⟨sNo, 7⟩ : Chd), xC, xM].length = 3 := rfl
    rw [e3] at hown6 ⊢
    have hb56 : Below w5.heap.size w5 w6 := H5.out.2.2.2.trans (hb6.mono H5.out.2.2.2.size)
    have hw6 := H5.out.1.trans (hb56.mono H5.out.1.size)
    have hr6 := H5.out.2.2.1.grow hb56 hb56.size
    have hown56 := row_kept (F := []) H5.out.2.1 (Kept.of_below hb56) (fun _ _ h => by simp at h)
    have hg6 : ∃ g, A6 = some ⟨g, 0, none⟩ := by
      rcases hown6.2 with ⟨_, h0⟩ | ⟨g, cap, cur, h, _⟩
      · simp at h0
      · cases h; exact ⟨g, rfl⟩
    have hg5 : ∃ g, A5 = some ⟨g, 0, none⟩ := by
      rcases hown56.2 with ⟨_, h0⟩ | ⟨g, cap, cur, h, _⟩
      · simp at h0
      · cases h; exact ⟨g, rfl⟩
    obtain ⟨g6, rfl⟩ := hg6
    obtain ⟨g5, rfl⟩ := hg5
    have q2 : w6.cell? ⟨g5, 2, none⟩ = some (.string sM) := hown56.cellAt 2 (by decide)
    have q3 : w6.cell? ⟨g5, 3, none⟩ = some (.int .i64 3) := hown56.cellAt 3 (by decide)
    have p0 : w6.cell? ⟨g6, 0, none⟩ = some (.string sNo) := hown6.cellAt 0 (by decide)
    have p1 : w6.cell? ⟨g6, 1, none⟩ = some (.int .i64 7) := hown6.cellAt 1 (by decide)
    have hcA : w6.cell? ⟨w.heap.size, 2, none⟩ = some (.string sM) ∧ w6.cell? ⟨w.heap.size, 3, none⟩ = some (.int .i64 3) := by
      obtain ⟨A', c', hv, _, _, _, h⟩ := hr6
      obtain ⟨b, off, hA, _, hi⟩ := h (by decide)
      simp only [Value.slice.injEq] at hv
      obtain ⟨rfl, _, _⟩ := hv
      cases hA
      exact hi 1 (by decide)
    obtain ⟨a2, a3⟩ := hcA
    have hZ := fun W (hb : Below w6.heap.size w6 W) => size_any _ [x0, xM] W (hr6.grow hb hb.size) (by intro y hy; simp at hy; rcases hy with rfl | rfl; exact right_ok right_0; exact right_ok right_m) (by rw [sz_0m]; omega)
    simp only [sz_0m] at hZ
    have hM := fun W (hb : Below w6.heap.size w6 W) => find_any _ [x0, xM] sM W (hr6.grow hb hb.size) (rise_0m.drop 1) (by decide)
    have hA := fun W (hb : Below w6.heap.size w6 W) => find_any _ [x0, xM] sA W (hr6.grow hb hb.size) (rise_0m.drop 1) (by decide)
    simp only [fnd_m] at hM
    simp only [fnd_a] at hA
    have HZ := Lib.hid hZ
    have HM := Lib.hid hM
    have HA := Lib.hid hA
    have hbz : ((5 : Int) == (S.size : Int)) = true := by rw [HSS.out.2]; rfl
    have HW := Lib.hid hw6
    clear hZ hM hA hr6 hown56 hown6 hb6 hb56 hw6 e3
    go_wp2_with fail
    have f2 := cell_gw q2
    have f3 := cell_gw q3
    have f4 := cell_gw p0
    have f5 := cell_gw p1
    have f6 := cell_gw a2
    have f7 := cell_gw a3
    refine wp_region_gw (by kernel_rfl) (by kernel_rfl) ?_
    repeat (refine wq_step (fun K hK => ?_); go_simp; first | (refine hK _ ?_; clear hK K) | (apply Exists.intro; refine ⟨fun _ => ?_, hK _ ?_⟩; (first | (go_at_call 45; first | (with_reducible exact Calls.gw_of (HM.out _ (gw_below _ _ _))) | (with_reducible exact Calls.gw_of (HA.out _ (gw_below _ _ _)))) | (go_at_call 40; (with_reducible exact Calls.gw_of (HZ.out _ (gw_below _ _ _))))); clear hK K))
    refine wq_nil ?_
    intro w7 hw7
    replace hw7 := gw_to hw7
    clear f2 f3 f4 f5 f6 f7 q2 q3 p0 p1 a2 a3
    go_wp2
    go_ret
    exact ⟨rfl, HW.out.trans (hw7.mono HW.out.size)⟩
  · exact absurd ⟨okl_0m, by rw [sz_0m]; omega, rfl⟩ (hno [x0, xM])
end Go.Proofs.YtpfifmjcmpankaaGreat.BR
