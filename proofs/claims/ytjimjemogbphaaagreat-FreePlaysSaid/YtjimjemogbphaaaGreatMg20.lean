/-
  The document's own answer: rising numbers; one taken out. The document's own answer: a number is taken out.
-/
import Derived.Test.YtjimjemogbphaaaGreatMg19
namespace Go.Proofs.YtjimjemogbphaaaGreat
open Go.RowKit

set_option maxRecDepth 100000 in
set_option maxHeartbeats 2000000 in
theorem refSorted_any {w : World} {v : Value} {l : List Int} (h : Reads1 w w.heap.size v (l.map (.int .i64))) (hl : l.length ≤ 50000) :
    Calls Tryz.prog 8 #[v] w fun e w' => ∃ v' m, e = .returned v' ∧ m.Perm l ∧ m.Pairwise (· ≤ ·) ∧ w'.ownsRow w.heap.size 3 1 v' m.length (cellsI m) ∧ Below w.heap.size w w' := by
  obtain ⟨A, c, rfl, hc⟩ := h
  simp only [List.length_map] at hc ⊢
  obtain ⟨n, hn⟩ : ∃ n, l.length = n := ⟨_, rfl⟩
  rw [hn] at hl hc ⊢
  have HL := Lib.hid (And.intro hc hn)
  clear hc hn
  go_enter Tryz.func8, Tryz.ntmps8
  go_wp2_with fail
  go_loopg [3, 4] n (fun g ov i wr => ∃ (k : Nat) (m : List Int), i = .int .i64 k ∧ k + g = n ∧ m.Perm (l.take k) ∧ m.Pairwise (· ≤ ·) ∧ wr.ownsRow w.heap.size 3 1 ov m.length (cellsI m) ∧ Below w.heap.size w wr)
  case atStart => exact ⟨0, [], rfl, by omega, List.Perm.refl _, List.Pairwise.nil, World.ownsRow_nil _ _ _ _, Below.refl _ _⟩
  case round =>
    obtain ⟨k, m, rfl, hkg, hperm, hsort, hrow, hbl⟩ := hrel
    obtain ⟨hc, hn⟩ := HL.out
    by_cases hlt : k < n
    · obtain ⟨b, off, rfl, hbb, hcell⟩ := hc (by omega)
      have hkl : k < l.length := by omega
      have hq : wr.cell? ⟨b, off + k, none⟩ = some (.int .i64 l[k]) := (hbl.cell (p := ⟨b, off + k, none⟩) hbb).trans (hcell k _ (by simp [hkl]))
      have hml : m.length ≤ 50000 := by rw [hperm.length_eq, List.length_take]; omega
      have htk : l.take (k + 1) = l.take k ++ [l[k]] := List.take_succ_eq_append_getElem hkl
      generalize l[k] = y at *
      have k1 : (k : Int) < n := by omega
      have k0 : (0 : Int) ≤ k := by omega
      have hput := refPut_any (w := wr) y (RdI.row hrow) (by omega)
      have HR := Lib.hid (And.intro hperm (And.intro hsort (And.intro hbl htk)))
      clear hc hn hbb hcell hperm hsort hrow hbl htk hml
      go_wp2_with fail
      refine hput.mono ?_
      rintro e w1 ⟨v1, m1, rfl, hin, hrow1, hb1⟩
      obtain ⟨hperm, hsort, hbl, htk⟩ := HR.out
      have hp1 : m1.Perm (l.take (k + 1)) := by
        rw [htk]
        exact hin.perm.trans ((List.Perm.cons y hperm).trans (List.perm_append_comm (l₁ := [y])))
      have HQ := Lib.hid (And.intro hp1 (And.intro (hin.sorted hsort) (And.intro (row_raise (row_base0 hrow1) (fun g hg => Nat.le_trans hbl.size (hrow1.lt g hg).1)) (hbl.trans (hb1.mono hbl.size)))))
      clear hp1 hput hin hrow1 hb1 hperm hsort hbl htk HR hq
      go_wp2_with fail
      go_roundg (n - (k + 1))
      case measure => omega
      case rel => exact ⟨k + 1, m1, by go_num, by omega, HQ.out.1, HQ.out.2.1, HQ.out.2.2.1, HQ.out.2.2.2⟩
    · obtain rfl : k = n := by omega
      have HR := Lib.hid (And.intro hperm (And.intro hsort (And.intro hrow (And.intro hbl hn))))
      clear hc hn hperm hsort hrow hbl
      go_wp2_with fail
      go_ret
      obtain ⟨h1, h2, h3, h4, h5⟩ := HR.out
      refine ⟨_, m, rfl, ?_, h2, h3, h4⟩
      rwa [← h5, List.take_length] at h1
end Go.Proofs.YtjimjemogbphaaaGreat

namespace Go.Proofs.YtjimjemogbphaaaGreat
open Go.RowKit

theorem erase_at {l : List Int} {x : Int} {k : Nat} (hk : k < l.length) (he : l[k] = x) (hno : ∀ j (h : j < l.length), j < k → l[j] ≠ x) : l.erase x = l.take k ++ l.drop (k + 1) ∧ x ∈ l := by
  refine ⟨?_, he ▸ List.getElem_mem hk⟩
  have e : l = l.take k ++ l.drop k := (List.take_append_drop k l).symm
  have hn : x ∉ l.take k := fun h => by
    obtain ⟨i, hi, h2⟩ := List.getElem_of_mem h
    rw [List.length_take] at hi
    rw [List.getElem_take] at h2
    exact hno i (by omega) (by omega) h2
  rw [List.drop_eq_getElem_cons hk, he] at e
  conv => lhs; rw [e]
  rw [List.erase_append_right _ hn, List.erase_cons_head]
theorem erase_no {l : List Int} {x : Int} (hno : ∀ j (h : j < l.length), l[j] ≠ x) : l.erase x = l ∧ ¬ x ∈ l := by
  have h : ¬ x ∈ l := fun h => by
    obtain ⟨i, hi, h2⟩ := List.getElem_of_mem h
    exact hno i hi h2
  exact ⟨List.erase_of_not_mem h, h⟩

set_option maxRecDepth 100000 in
set_option maxHeartbeats 4000000 in
theorem refDrop_some {w : World} {b off c : Nat} {l : List Int} (x : Int) (hl : l.length ≤ 100000) (hcp : l.length ≤ c) (hbb : b < w.heap.size) (hcell : ∀ (j : Nat) (u : Value), (l.map (Value.int .i64))[j]? = some u → w.cell? ⟨b, off + j, none⟩ = some u) :
    Calls Tryz.prog 43 #[.slice (some ⟨b, off, none⟩) l.length c, .int .i64 x] w fun e w' => ∃ v', e = .returned (.tuple #[v', .bool (decide (x ∈ l))]) ∧ RdI w' v' (l.erase x) ∧ Below w.heap.size w w' ∧ ∀ g, v'.ownBlock = some g → b = g ∨ w.heap.size ≤ g := by
  have h0 : RdI w (.slice (some ⟨b, off, none⟩) l.length c) l := .inr ⟨b, off, c, rfl, hcp, hbb, hcell⟩
  obtain ⟨n, hn⟩ : ∃ n, l.length = n := ⟨_, rfl⟩
  rw [hn] at hl hcp h0 ⊢
  have HL := Lib.hid (And.intro hcell (And.intro hbb (And.intro hn (And.intro hcp h0))))
  clear hcell hbb hn hcp h0
  go_enter Tryz.func43, Tryz.ntmps43
  go_wp2_with fail
  go_loopg [6] n (fun g i wr => ∃ k : Nat, i = .int .i64 k ∧ k + g = n ∧ (∀ j (h : j < l.length), j < k → l[j] ≠ x) ∧ Below w.heap.size w wr)
  case atStart => exact ⟨0, rfl, by omega, fun j _ h => absurd h (by omega), Below.refl _ _⟩
  case round =>
    obtain ⟨k, rfl, hkg, hno, hbl⟩ := hrel
    obtain ⟨hcell, hbb, hn, hcp, h0⟩ := HL.out
    by_cases hlt : k < n
    · have hkl : k < l.length := by omega
      have hq : wr.cell? ⟨b, off + k, none⟩ = some (.int .i64 l[k]) := (hbl.cell (p := ⟨b, off + k, none⟩) hbb).trans (hcell k _ (by simp [hkl]))
      have k1 : (k : Int) < n := by omega
      have k0 : (0 : Int) ≤ k := by omega
      obtain ⟨y, hy⟩ : ∃ y, l[k] = y := ⟨_, rfl⟩
      rw [hy] at hq
      by_cases hcmp : y = x
      · have HE := Lib.hid (erase_at hkl (hy.trans hcmp) hno)
        have HTK := Lib.hid (fun (W : World) (hB : Below w.heap.size w W) => reads_take (c := c) hcell hbb hB (show k ≤ l.length by omega))
        have HD := Lib.hid (fun (W : World) (hB : Below w.heap.size w W) => reads_drop (c := c - (k + 1)) (k := k + 1) hcell hbb hB)
        have HBd := Lib.hid hbl.drew
        have hln := hn
        clear hn hbl hcell hbb hy hno h0
        go_wp2_with fail
        have hc0 : ¬ c = 0 := by omega
        have hkc : (k : Int) ≤ c := by omega
        have hk1n : ¬ n < k + 1 := by omega
        have hz1 : ¬ ((k : Int) + 1 < (k : Int)) := by omega
        have hz2 : ¬ ((k : Int) + 1 < 0) := by omega
        have hz3 : ¬ ((n : Int) < (k : Int) + 1) := by omega
        have hz4 : (0 : Int) ≤ (k : Int) + 1 := by omega
        have hz5 : IntKind.i64.wrap ((k : Int) + 1) = (k : Int) + 1 := by rw [IntKind.wrap_i64]; omega
        have hT : True := trivial
        by_cases hck : c = k + 1
        · subst hck
          have hnk : n = k + 1 := by omega
          subst hnk
          refine wp_region_tills (fun _ => True) 8 (by kernel_rfl) ?_
          refine till_takeAt 19 (i := 0) (v := .slice (some ⟨b, off, none⟩) (k + 1) (k + 1)) rfl rfl (by kernel_rfl) (by kernel_rfl) (by kernel_rfl) (by kernel_rfl) (by kernel_rfl) (fun _ _ _ h => h) (Or.inl ⟨by rfl, fun w' hw' => by obtain q1 := hw'; go_simp⟩) hT ?_
          simp only [List.setIfInBounds_toArray, List.set_cons_zero, List.set_cons_succ]
          refine till_takeAt 20 (i := 1) (v := .int .i64 k) rfl rfl (by kernel_rfl) (by kernel_rfl) (by kernel_rfl) (by kernel_rfl) (by kernel_rfl) (fun _ _ _ h => h) (Or.inl ⟨by rfl, fun w' hw' => by obtain q1 := hw'; go_simp⟩) hT ?_
          simp only [List.setIfInBounds_toArray, List.set_cons_zero, List.set_cons_succ]
          refine till_takeAt 21 (i := 2) (v := .slice (some ⟨b, off, none⟩) k (k + 1)) rfl rfl (by kernel_rfl) (by kernel_rfl) (by kernel_rfl) (by kernel_rfl) (by kernel_rfl) (fun _ _ _ h => h) (Or.inl ⟨by rfl, fun w' hw' => by obtain q1 := hw'; go_simp⟩) hT ?_
          simp only [List.setIfInBounds_toArray, List.set_cons_zero, List.set_cons_succ]
          refine till_takeAt 23 (i := 4) (v := .slice (some ⟨b, off, none⟩) (k + 1) (k + 1)) rfl rfl (by kernel_rfl) (by kernel_rfl) (by kernel_rfl) (by kernel_rfl) (by kernel_rfl) (fun _ _ _ h => h) (Or.inl ⟨by rfl, fun w' hw' => by obtain q1 := hw'; go_simp⟩) hT ?_
          simp only [List.setIfInBounds_toArray, List.set_cons_zero, List.set_cons_succ]
          refine till_takeAt 24 (i := 5) (v := .int .i64 k) rfl rfl (by kernel_rfl) (by kernel_rfl) (by kernel_rfl) (by kernel_rfl) (by kernel_rfl) (fun _ _ _ h => h) (Or.inl ⟨by rfl, fun w' hw' => by obtain q1 := hw'; go_simp⟩) hT ?_
          simp only [List.setIfInBounds_toArray, List.set_cons_zero, List.set_cons_succ]
          refine till_takeAt 25 (i := 6) (v := .int .i64 ((k : Int) + 1)) rfl rfl (by kernel_rfl) (by kernel_rfl) (by kernel_rfl) (by kernel_rfl) (by kernel_rfl) (fun _ _ _ h => h) (Or.inl ⟨by rfl, fun w' hw' => by obtain q1 := hw'; go_simp⟩) hT ?_
          simp only [List.setIfInBounds_toArray, List.set_cons_zero, List.set_cons_succ]
          refine till_takeAt 26 (i := 7) (v := .slice (some ⟨b, off, none⟩) 0 0) rfl rfl (by kernel_rfl) (by kernel_rfl) (by kernel_rfl) (by kernel_rfl) (by kernel_rfl) (fun _ _ _ h => h) (Or.inl ⟨by rfl, fun w' hw' => by obtain q1 := hw'; go_simp⟩) hT ?_
          simp only [List.setIfInBounds_toArray, List.set_cons_zero, List.set_cons_succ]
          refine till_one (i := 3) (by kernel_rfl) rfl rfl (fun K hK => ?_)
          refine wp_append_reads (.const (.slice none 0 0)) (.tmp 21) 22 3 (.int .i64 0) 8 Tryz.underlying22 Tryz.infoInt rfl (by decide) rfl w.heap.size _ (.slice none 0 0) 0 [] (by rfl) (World.ownsRow_nil _ _ _ _) _ (.slice (some ⟨b, off, none⟩) k (k + 1)) (by rfl) (cellsI (l.take k)) (HTK.out _ HBd.out) no_form int_one (by simp [cellsI]; try omega) HBd.out.size ?_
          intro v1 w1 hr1 hg1
          refine hK _ _ ⟨fun _ => trivial, ?_⟩
          clear hK K
          have HW := Lib.hid (And.intro (row_start hr1 (show k ≤ l.length by omega)) (HBd.out.grown hg1 HBd.out.size (fun k hk => by cases hk)))
          clear hr1 hg1 HBd
          refine till_one (i := 8) (by kernel_rfl) rfl rfl (fun K hK => ?_)
          refine wp_append_reads (.tmp 22) (.tmp 26) 22 3 (.int .i64 0) 8 Tryz.underlying22 Tryz.infoInt rfl (by decide) rfl w.heap.size _ v1 k _ (by rfl) HW.out.1 _ (.slice (some ⟨b, off, none⟩) 0 0) (by rfl) (cellsI (l.drop (k + 1))) (reads_no (by omega)) no_form int_one (by simp [cellsI]; try omega) HW.out.2.size ?_
          intro v2 w2 hr2 hg2
          refine hK _ _ ⟨fun h => absurd h (by omega), ?_⟩
          clear hK K
          have HV := Lib.hid (And.intro hr2 (HW.out.2.grown hg2 HW.out.2.size (fun k hk => (HW.out.1.lt k hk).1)))
          clear hr2 hg2 HW
          refine till_one (i := 9) (by kernel_rfl) rfl rfl (fun K hK => ?_)
          go_simp
          refine hK _ _ ⟨fun h => absurd h (by omega), ?_⟩
          clear hK K
          refine till_one (i := 10) (by kernel_rfl) rfl rfl (fun K hK => ?_)
          go_simp
          refine hK _ _ ⟨fun h => absurd h (by omega), till_done (by kernel_rfl) ?_ _⟩
          clear hK K
          go_wp2
          go_ret2
          refine ⟨v2, by rw [decide_eq_true HE.out.2]; rfl, ?_, HV.out.2, fun g hg => .inr (HV.out.1.lt g hg).1⟩
          rw [HE.out.1]
          have h := HV.out.1
          rw [← cellsI_append] at h
          exact RdI.row h
        · have hck2 : ¬ (c : Int) = (k : Int) + 1 := by omega
          refine wp_region_tills (fun _ => True) 8 (by kernel_rfl) ?_
          refine till_takeAt 19 (i := 0) (v := .slice (some ⟨b, off, none⟩) n c) rfl rfl (by kernel_rfl) (by kernel_rfl) (by kernel_rfl) (by kernel_rfl) (by kernel_rfl) (fun _ _ _ h => h) (Or.inl ⟨by rfl, fun w' hw' => by obtain q1 := hw'; go_simp⟩) hT ?_
          simp only [List.setIfInBounds_toArray, List.set_cons_zero, List.set_cons_succ]
          refine till_takeAt 20 (i := 1) (v := .int .i64 k) rfl rfl (by kernel_rfl) (by kernel_rfl) (by kernel_rfl) (by kernel_rfl) (by kernel_rfl) (fun _ _ _ h => h) (Or.inl ⟨by rfl, fun w' hw' => by obtain q1 := hw'; go_simp⟩) hT ?_
          simp only [List.setIfInBounds_toArray, List.set_cons_zero, List.set_cons_succ]
          refine till_takeAt 21 (i := 2) (v := .slice (some ⟨b, off, none⟩) k c) rfl rfl (by kernel_rfl) (by kernel_rfl) (by kernel_rfl) (by kernel_rfl) (by kernel_rfl) (fun _ _ _ h => h) (Or.inl ⟨by rfl, fun w' hw' => by obtain q1 := hw'; go_simp⟩) hT ?_
          simp only [List.setIfInBounds_toArray, List.set_cons_zero, List.set_cons_succ]
          refine till_takeAt 23 (i := 4) (v := .slice (some ⟨b, off, none⟩) n c) rfl rfl (by kernel_rfl) (by kernel_rfl) (by kernel_rfl) (by kernel_rfl) (by kernel_rfl) (fun _ _ _ h => h) (Or.inl ⟨by rfl, fun w' hw' => by obtain q1 := hw'; go_simp⟩) hT ?_
          simp only [List.setIfInBounds_toArray, List.set_cons_zero, List.set_cons_succ]
          refine till_takeAt 24 (i := 5) (v := .int .i64 k) rfl rfl (by kernel_rfl) (by kernel_rfl) (by kernel_rfl) (by kernel_rfl) (by kernel_rfl) (fun _ _ _ h => h) (Or.inl ⟨by rfl, fun w' hw' => by obtain q1 := hw'; go_simp⟩) hT ?_
          simp only [List.setIfInBounds_toArray, List.set_cons_zero, List.set_cons_succ]
          refine till_takeAt 25 (i := 6) (v := .int .i64 ((k : Int) + 1)) rfl rfl (by kernel_rfl) (by kernel_rfl) (by kernel_rfl) (by kernel_rfl) (by kernel_rfl) (fun _ _ _ h => h) (Or.inl ⟨by rfl, fun w' hw' => by obtain q1 := hw'; go_simp⟩) hT ?_
          simp only [List.setIfInBounds_toArray, List.set_cons_zero, List.set_cons_succ]
          refine till_takeAt 26 (i := 7) (v := .slice (some ⟨b, off + (k + 1), none⟩) (n - (k + 1)) (c - (k + 1))) rfl rfl (by kernel_rfl) (by kernel_rfl) (by kernel_rfl) (by kernel_rfl) (by kernel_rfl) (fun _ _ _ h => h) (Or.inl ⟨by rfl, fun w' hw' => by obtain q1 := hw'; go_simp⟩) hT ?_
          simp only [List.setIfInBounds_toArray, List.set_cons_zero, List.set_cons_succ]
          refine till_one (i := 3) (by kernel_rfl) rfl rfl (fun K hK => ?_)
          refine wp_append_reads (.const (.slice none 0 0)) (.tmp 21) 22 3 (.int .i64 0) 8 Tryz.underlying22 Tryz.infoInt rfl (by decide) rfl w.heap.size _ (.slice none 0 0) 0 [] (by rfl) (World.ownsRow_nil _ _ _ _) _ (.slice (some ⟨b, off, none⟩) k c) (by rfl) (cellsI (l.take k)) (HTK.out _ HBd.out) no_form int_one (by simp [cellsI]; try omega) HBd.out.size ?_
          intro v1 w1 hr1 hg1
          refine hK _ _ ⟨fun _ => trivial, ?_⟩
          clear hK K
          have HW := Lib.hid (And.intro (row_start hr1 (show k ≤ l.length by omega)) (HBd.out.grown hg1 HBd.out.size (fun k hk => by cases hk)))
          clear hr1 hg1 HBd
          refine till_one (i := 8) (by kernel_rfl) rfl rfl (fun K hK => ?_)
          refine wp_append_reads (.tmp 22) (.tmp 26) 22 3 (.int .i64 0) 8 Tryz.underlying22 Tryz.infoInt rfl (by decide) rfl w.heap.size _ v1 k _ (by rfl) HW.out.1 _ (.slice (some ⟨b, off + (k + 1), none⟩) (n - (k + 1)) (c - (k + 1))) (by rfl) (cellsI (l.drop (k + 1))) (by have := HD.out _ HW.out.2; rwa [hln] at this) no_form int_one (by simp [cellsI]; try omega) HW.out.2.size ?_
          intro v2 w2 hr2 hg2
          refine hK _ _ ⟨fun h => absurd h (by omega), ?_⟩
          clear hK K
          have HV := Lib.hid (And.intro hr2 (HW.out.2.grown hg2 HW.out.2.size (fun k hk => (HW.out.1.lt k hk).1)))
          clear hr2 hg2 HW
          refine till_one (i := 9) (by kernel_rfl) rfl rfl (fun K hK => ?_)
          go_simp
          refine hK _ _ ⟨fun h => absurd h (by omega), ?_⟩
          clear hK K
          refine till_one (i := 10) (by kernel_rfl) rfl rfl (fun K hK => ?_)
          go_simp
          refine hK _ _ ⟨fun h => absurd h (by omega), till_done (by kernel_rfl) ?_ _⟩
          clear hK K
          go_wp2
          go_ret2
          refine ⟨v2, by rw [decide_eq_true HE.out.2]; rfl, ?_, HV.out.2, fun g hg => .inr (HV.out.1.lt g hg).1⟩
          rw [HE.out.1]
          have h := HV.out.1
          rw [← cellsI_append] at h
          exact RdI.row h
      · have HR := Lib.hid (And.intro hno (And.intro hbl (And.intro hcmp hy)))
        have hcm : decide (y = x) = false := by simpa using hcmp
        clear hn hbl hcell hbb hno hy h0
        go_wp2_with fail
        go_roundg (n - (k + 1))
        case measure => omega
        case rel =>
          refine ⟨k + 1, by go_num, by omega, fun j hj hjk => ?_, HR.out.2.1⟩
          rcases Nat.lt_or_ge j k with h | h
          · exact HR.out.1 j hj h
          · obtain rfl : j = k := by omega
            rw [HR.out.2.2.2]
            exact HR.out.2.2.1
    · obtain rfl : k = n := by omega
      have HE := Lib.hid (erase_no (fun j hj => hno j hj (by omega)))
      have HR := Lib.hid (And.intro (h0.below hbl) hbl)
      clear hn hno hbl hcell hbb h0
      go_wp2_with fail
      go_ret2
      refine ⟨.slice (some ⟨b, off, none⟩) k c, by rw [decide_eq_false HE.out.2]; rfl, ?_, HR.out.2, fun g hg => .inl (by simpa [Value.ownBlock] using hg)⟩
      rw [HE.out.1]
      exact HR.out.1

set_option maxRecDepth 100000 in
theorem refDrop_nil {w : World} (x : Int) :
    Calls Tryz.prog 43 #[.slice none 0 0, .int .i64 x] w fun e w' => e = .returned (.tuple #[.slice none 0 0, .bool false]) ∧ Below w.heap.size w w' := by
  go_enter Tryz.func43, Tryz.ntmps43
  go_wp2_with fail
  go_loopg [6] 0 (fun g i wr => i = .int .i64 0 ∧ Below w.heap.size w wr)
  case atStart => exact ⟨rfl, Below.refl _ _⟩
  case round =>
    obtain ⟨rfl, hbl⟩ := hrel
    have HB := Lib.hid hbl
    clear hbl
    go_wp2_with fail
    go_ret2
    exact ⟨rfl, HB.out⟩

theorem refDrop_any {w : World} {v : Value} {l : List Int} (x : Int) (h : RdI w v l) (hl : l.length ≤ 100000) :
    Calls Tryz.prog 43 #[v, .int .i64 x] w fun e w' => ∃ v', e = .returned (.tuple #[v', .bool (decide (x ∈ l))]) ∧ RdI w' v' (l.erase x) ∧ Below w.heap.size w w' ∧ ∀ g, v'.ownBlock = some g → v.ownBlock = some g ∨ w.heap.size ≤ g := by
  rcases h with ⟨rfl, rfl⟩ | ⟨b, off, c, rfl, h1, h2, h3⟩
  · refine (refDrop_nil x).mono ?_
    rintro e w' ⟨rfl, hb⟩
    exact ⟨nilV, rfl, RdI.nil _, hb, fun g hg => by simp [Value.ownBlock] at hg⟩
  · refine (refDrop_some x hl h1 h2 h3).mono ?_
    rintro e w' ⟨v', rfl, h4, h5, h6⟩
    exact ⟨v', rfl, h4, h5, fun g hg => (h6 g hg).imp (fun e => by rw [← e]; rfl) id⟩
end Go.Proofs.YtjimjemogbphaaaGreat
