/-
  Walks over package leaf: copied.
-/
import Derived.Test.YtpoocbkligjgbaaGreatDoorMg25
import Derived.Test.YtpoocbkligjgbaaGreatDoorMg5
namespace Go.Proofs.YtpoocbkligjgbaaGreatDoor
open Go.RowKit Go.Lib

theorem row_same {w : World} {base : Nat} {e : TypeId} {size g cap n : Nat} {xs : List Value} (h : w.ownsRow base e size (.slice (some ⟨g, 0, none⟩) n cap) n xs) {j : Nat} {u : Value} (hu : xs[j]? = some u) :
    (w.setCell ⟨g, j, none⟩ u).ownsRow base e size (.slice (some ⟨g, 0, none⟩) n cap) n xs := by
  have h1 := (h.stored j u).1
  have hj := (List.getElem?_eq_some_iff.1 hu)
  obtain ⟨hlt, e1⟩ := hj
  have e2 : xs.set j u = xs := by rw [← e1]; exact List.set_getElem_self hlt
  rw [e2] at h1
  exact h1

set_option maxRecDepth 100000 in
set_option maxHeartbeats 2000000 in
theorem copied_any (v : Value) (P : List (Value × List Itm)) (w : World) (hr : Reads1 w w.heap.size v (P.map fun p => p.1)) (hp : ∀ p ∈ P, ReadsIt w w.heap.size p.1 p.2) (hl : (flatI P).length ≤ 1000000) (hn : P.length ≤ 1000)
    (hz : ∀ x ∈ flatI P, x.key.size ≤ 281474976710656 ∧ x.val.size ≤ 281474976710656) :
    Calls Tryz.prog 136 #[v] w fun e w' => ∃ v', e = .returned v' ∧ w'.ownsRow w.heap.size 126 4 v' (flatI P).length (ilist (flatI P)) ∧ Below w.heap.size w w' := by
  have hcc := concat_any v P w hr hp hl hn
  obtain ⟨A, c, rfl, _⟩ := hr
  simp only [List.length_map] at hcc ⊢
  generalize flatI P = L at *
  obtain ⟨N, hN⟩ : ∃ N, L.length = N := ⟨_, rfl⟩
  rw [hN] at hcc hl ⊢
  have HN := Lib.hid (And.intro hN hz)
  clear hN hz hp
  go_enter Tryz.func136, Tryz.ntmps136
  go_wp2_with fail
  refine hcc.mono ?_
  rintro e w1 ⟨v1, rfl, hown1, hb1⟩
  have hform : ∃ A1 c1, v1 = .slice A1 N c1 := by
    rcases hown1.2 with ⟨rfl, rfl⟩ | ⟨g, cap, cur, rfl, _⟩
    · exact ⟨none, 0, rfl⟩
    · exact ⟨_, _, rfl⟩
  obtain ⟨A1, c1, rfl⟩ := hform
  have HO := Lib.hid (And.intro hown1 hb1)
  have hN1 : (N : Int) ≤ 1000000 := by omega
  clear hown1 hb1 hcc
  go_wp2_with fail
  go_loopw [9] (fun iv wr => ∃ k : Nat, k ≤ N ∧ iv = .int .i64 k ∧ wr.ownsRow w.heap.size 126 4 (.slice A1 N c1) N (ilist L) ∧ Below w.heap.size w wr) (fun iv _ => N - (RowKit.intOf iv).toNat)
  case atStart => exact ⟨0, Nat.zero_le _, rfl, HO.out.1, HO.out.2⟩
  case round =>
    obtain ⟨k, hk, rfl, hown, hbl⟩ := hrel
    have hbs := hbl.size
    by_cases hlt : k < N
    · have hkl : k < L.length := by rw [HN.out.1]; exact hlt
      have hg : ∃ g, A1 = some ⟨g, 0, none⟩ := by
        rcases hown.2 with ⟨_, h0⟩ | ⟨g, cap, cur, h, _⟩
        · omega
        · cases h; exact ⟨g, rfl⟩
      obtain ⟨g, rfl⟩ := hg
      have hx := HN.out.2 L[k] (by simp)
      have a0 : (ilist L)[k * 4]? = some (.string L[k].key) := ilist_at hkl 0 (by omega)
      have a1 : (ilist L)[k * 4 + 1]? = some (.string L[k].val) := ilist_at hkl 1 (by omega)
      have hk0 : (0 : Int) ≤ k := by omega
      have hkN : (k : Int) < N := by omega
      generalize L[k] = x at *
      have hc1 := fun W => tclone_any x.key hx.1 W
      have hc2 := fun W => tclone_any x.val hx.2 W
      -- what is held of the row in every world where nothing that was there has turned
      have hS1 : ∀ W, Below wr.drew.heap.size wr.drew W → W.ownsRow w.heap.size 126 4 (.slice (some ⟨g, 0, none⟩) N c1) N (ilist L) := fun W hb => row_kept (F := []) (show wr.drew.ownsRow _ _ _ _ _ _ from hown) (Kept.of_below hb) (fun _ _ h => by simp at h)
      have HS1 := Lib.hid hS1
      have HC := Lib.hid (And.intro hc1 hc2)
      have HA := Lib.hid (And.intro a0 a1)
      have hcell : ∀ W, Below wr.drew.heap.size wr.drew W → W.cell? ⟨g, k * 4, none⟩ = some (.string x.key) ∧ W.cell? ⟨g, k * 4 + 1, none⟩ = some (.string x.val) := fun W hb => by
        have h1 := hS1 W hb
        exact ⟨(h1.cellAt (k * 4) (by omega)).trans a0, (h1.cellAt (k * 4 + 1) (by omega)).trans a1⟩
      have HCE := Lib.hid hcell
      have HBL := Lib.hid (And.intro hown hbl)
      clear hc1 hc2 hS1 a0 a1 hcell hown hbl hx hkl
      go_wp2_with fail
      have hT : True := trivial
      refine wp_region_tills (fun _ => True) 22 (by kernel_rfl) ?_
      refine till_takeAt 14 (i := 2) (v := .slice (some ⟨g, 0, none⟩) N c1) rfl rfl (by kernel_rfl) (by kernel_rfl) (by kernel_rfl) (by kernel_rfl) (by kernel_rfl) (fun _ _ _ h => h) (Or.inl ⟨by rfl, fun w' hw' => by obtain q1 := hw'; go_simp⟩) hT ?_
      simp only [List.setIfInBounds_toArray, List.set_cons_zero, List.set_cons_succ]
      refine till_takeAt 15 (i := 3) (v := .int .i64 k) rfl rfl (by kernel_rfl) (by kernel_rfl) (by kernel_rfl) (by kernel_rfl) (by kernel_rfl) (fun _ _ _ h => h) (Or.inl ⟨by rfl, fun w' hw' => by obtain q1 := hw'; go_simp⟩) hT ?_
      simp only [List.setIfInBounds_toArray, List.set_cons_zero, List.set_cons_succ]
      have hS : wr.drew.cell? ⟨g, k * 4, none⟩ = some (.string x.key) ∧ wr.drew.cell? ⟨g, k * 4 + 1, none⟩ = some (.string x.val) := HCE.out _ (Below.refl _ _)
      refine till_turn (S := fun w' => w'.cell? ⟨g, k * 4, none⟩ = some (.string x.key) ∧ w'.cell? ⟨g, k * 4 + 1, none⟩ = some (.string x.val)) (last := 16) 22 _ _ _ _ ?_
      refine till_takeAt 12 (i := 0) (v := .slice (some ⟨g, 0, none⟩) N c1) rfl rfl (by kernel_rfl) (by kernel_rfl) (by kernel_rfl) (by kernel_rfl) (by kernel_rfl) (fun _ _ _ h => h) (Or.inl ⟨by rfl, fun w' hw' => by obtain ⟨q1, q2⟩ := hw'; go_simp⟩) hS ?_
      simp only [List.setIfInBounds_toArray, List.set_cons_zero, List.set_cons_succ]
      refine till_takeAt 13 (i := 1) (v := .int .i64 k) rfl rfl (by kernel_rfl) (by kernel_rfl) (by kernel_rfl) (by kernel_rfl) (by kernel_rfl) (fun _ _ _ h => h) (Or.inl ⟨by rfl, fun w' hw' => by obtain ⟨q1, q2⟩ := hw'; go_simp⟩) hS ?_
      simp only [List.setIfInBounds_toArray, List.set_cons_zero, List.set_cons_succ]
      refine till_takeAt 16 (i := 4) (v := .slice (some ⟨g, 0, none⟩) N c1) rfl rfl (by kernel_rfl) (by kernel_rfl) (by kernel_rfl) (by kernel_rfl) (by kernel_rfl) (fun _ _ _ h => h) (Or.inl ⟨by rfl, fun w' hw' => by obtain ⟨q1, q2⟩ := hw'; go_simp⟩) hS ?_
      simp only [List.setIfInBounds_toArray, List.set_cons_zero, List.set_cons_succ]
      refine till_takeAt 17 (i := 5) (v := .int .i64 k) rfl rfl (by kernel_rfl) (by kernel_rfl) (by kernel_rfl) (by kernel_rfl) (by kernel_rfl) (fun _ _ _ h => h) (Or.inl ⟨by rfl, fun w' hw' => by obtain ⟨q1, q2⟩ := hw'; go_simp⟩) hS ?_
      simp only [List.setIfInBounds_toArray, List.set_cons_zero, List.set_cons_succ]
      refine till_takeAt 18 (i := 6) (v := .pointer (some ⟨g, k * 4, none⟩)) rfl rfl (by kernel_rfl) (by kernel_rfl) (by kernel_rfl) (by kernel_rfl) (by kernel_rfl) (fun _ _ _ h => h) (Or.inl ⟨by rfl, fun w' hw' => by obtain ⟨q1, q2⟩ := hw'; go_simp⟩) hS ?_
      simp only [List.setIfInBounds_toArray, List.set_cons_zero, List.set_cons_succ]
      refine till_takeAt 19 (i := 7) (v := .pointer (some ⟨g, k * 4, none⟩)) rfl rfl (by kernel_rfl) (by kernel_rfl) (by kernel_rfl) (by kernel_rfl) (by kernel_rfl) (fun _ _ _ h => h) (Or.inl ⟨by rfl, fun w' hw' => by obtain ⟨q1, q2⟩ := hw'; go_simp⟩) hS ?_
      simp only [List.setIfInBounds_toArray, List.set_cons_zero, List.set_cons_succ]
      refine till_takeAt 20 (i := 8) (v := .string x.key) rfl rfl (by kernel_rfl) (by kernel_rfl) (by kernel_rfl) (by kernel_rfl) (by kernel_rfl) (fun _ _ _ h => h) (Or.inl ⟨by rfl, fun w' hw' => by obtain ⟨q1, q2⟩ := hw'; go_simp⟩) hS ?_
      simp only [List.setIfInBounds_toArray, List.set_cons_zero, List.set_cons_succ]
      refine till_takeAt 22 (i := 10) (v := .slice (some ⟨g, 0, none⟩) N c1) rfl rfl (by kernel_rfl) (by kernel_rfl) (by kernel_rfl) (by kernel_rfl) (by kernel_rfl) (fun _ _ _ h => h) (Or.inl ⟨by rfl, fun w' hw' => by obtain ⟨q1, q2⟩ := hw'; go_simp⟩) hS ?_
      simp only [List.setIfInBounds_toArray, List.set_cons_zero, List.set_cons_succ]
      refine till_takeAt 23 (i := 11) (v := .int .i64 k) rfl rfl (by kernel_rfl) (by kernel_rfl) (by kernel_rfl) (by kernel_rfl) (by kernel_rfl) (fun _ _ _ h => h) (Or.inl ⟨by rfl, fun w' hw' => by obtain ⟨q1, q2⟩ := hw'; go_simp⟩) hS ?_
      simp only [List.setIfInBounds_toArray, List.set_cons_zero, List.set_cons_succ]
      refine till_takeAt 24 (i := 12) (v := .pointer (some ⟨g, k * 4, none⟩)) rfl rfl (by kernel_rfl) (by kernel_rfl) (by kernel_rfl) (by kernel_rfl) (by kernel_rfl) (fun _ _ _ h => h) (Or.inl ⟨by rfl, fun w' hw' => by obtain ⟨q1, q2⟩ := hw'; go_simp⟩) hS ?_
      simp only [List.setIfInBounds_toArray, List.set_cons_zero, List.set_cons_succ]
      refine till_takeAt 25 (i := 13) (v := .pointer (some ⟨g, k * 4 + 1, none⟩)) rfl rfl (by kernel_rfl) (by kernel_rfl) (by kernel_rfl) (by kernel_rfl) (by kernel_rfl) (fun _ _ _ h => h) (Or.inl ⟨by rfl, fun w' hw' => by obtain ⟨q1, q2⟩ := hw'; go_simp⟩) hS ?_
      simp only [List.setIfInBounds_toArray, List.set_cons_zero, List.set_cons_succ]
      refine till_takeAt 26 (i := 14) (v := .string x.val) rfl rfl (by kernel_rfl) (by kernel_rfl) (by kernel_rfl) (by kernel_rfl) (by kernel_rfl) (fun _ _ _ h => h) (Or.inl ⟨by rfl, fun w' hw' => by obtain ⟨q1, q2⟩ := hw'; go_simp⟩) hS ?_
      simp only [List.setIfInBounds_toArray, List.set_cons_zero, List.set_cons_succ]
      clear hS
      refine till_one (i := 9) (by kernel_rfl) rfl rfl (fun K hK => ?_)
      go_simp
      refine (HC.out.1 _).mono ?_
      rintro e w2 ⟨rfl, hb2⟩
      refine hK _ _ ⟨fun _ => HCE.out _ hb2, ?_⟩
      clear hK K
      refine till_one (i := 15) (by kernel_rfl) rfl rfl (fun K hK => ?_)
      go_simp
      refine (HC.out.2 _).mono ?_
      rintro e w3 ⟨rfl, hb3⟩
      have hb3' := hb2.trans (hb3.mono hb2.size)
      refine hK _ _ ⟨fun _ => HCE.out _ hb3', ?_⟩
      clear hK K hb2 hb3
      have hown3 := HS1.out _ hb3'
      have q0 := (HCE.out _ hb3').1
      have q1 := hown3.frozenAt (k * 4)
      have hown4 := row_same hown3 HA.out.1
      have q2 : (w3.setCell ⟨g, k * 4, none⟩ (.string x.key)).cell? ⟨g, k * 4 + 1, none⟩ = some (.string x.val) := (hown4.cellAt (k * 4 + 1) (by omega)).trans HA.out.2
      have q3 := hown4.frozenAt (k * 4 + 1)
      have hown5 := row_same hown4 HA.out.2
      have HF := Lib.hid (And.intro hown5 (And.intro hb3' hown3))
      clear hown3 hown4 hown5 hb3'
      refine till_one (i := 16) (by kernel_rfl) rfl rfl (fun K hK => ?_)
      go_simp
      refine hK _ _ ⟨fun h => absurd h (by omega), ?_⟩
      clear hK K
      refine till_one (i := 17) (by kernel_rfl) rfl rfl (fun K hK => ?_)
      go_simp
      refine hK _ _ ⟨fun h => absurd h (by omega), ?_⟩
      clear hK K
      refine till_one (i := 18) (by kernel_rfl) rfl rfl (fun K hK => ?_)
      go_simp
      refine hK _ _ ⟨fun h => absurd h (by omega), ?_⟩
      clear hK K
      obtain ⟨w4, hw4⟩ : ∃ w4, w3.setCell ⟨g, k * 4, none⟩ (.string x.key) = w4 := ⟨_, rfl⟩
      rw [hw4] at q2 q3 ⊢
      have HW4 := Lib.hid hw4
      clear hw4
      refine till_one (i := 19) (by kernel_rfl) rfl rfl (fun K hK => ?_)
      go_simp
      refine hK _ _ ⟨fun h => absurd h (by omega), ?_⟩
      clear hK K
      refine till_one (i := 20) (by kernel_rfl) rfl rfl (fun K hK => ?_)
      go_simp
      refine hK _ _ ⟨fun h => absurd h (by omega), ?_⟩
      clear hK K
      refine till_one (i := 21) (by kernel_rfl) rfl rfl (fun K hK => ?_)
      go_simp
      refine hK _ _ ⟨fun h => absurd h (by omega), till_done (by kernel_rfl) ?_ _⟩
      clear hK K
      go_wp2_with fail
      obtain ⟨h5, h6, h7⟩ := HF.out
      rw [HW4.out] at h5
      have hgg := (h7.lt g rfl).1
      go_roundw
      case rel =>
        refine ⟨k + 1, by omega, by go_num, h5, ?_⟩
        have h8 : Below w.heap.size w w3 := HBL.out.2.trans (((Below.refl _ _).drew.trans h6).mono hbs)
        rw [← HW4.out]
        exact (h8.setCell (p := ⟨g, k * 4, none⟩) hgg _).setCell (p := ⟨g, k * 4 + 1, none⟩) hgg _
      case measure => simp [RowKit.intOf]; omega
    · obtain rfl : k = N := by omega
      go_wp2_with fail
      go_ret
      exact ⟨_, rfl, hown, hbl⟩
end Go.Proofs.YtpoocbkligjgbaaGreatDoor
