/-
  The document's own answer: a number into rising ones (printed by genR7.py).
-/
import Derived.Test.YtpoocbkligjgbaaGreatDoorMg12
namespace Go.Proofs.YtpoocbkligjgbaaGreatDoor
open Go.RowKit

/-- A list of numbers that can be read, wherever it lies. -/
def RdI (w : World) (v : Value) (l : List Int) : Prop :=
  (v = nilV ∧ l = []) ∨ ∃ b off c, v = .slice (some ⟨b, off, none⟩) l.length c ∧ l.length ≤ c ∧ b < w.heap.size ∧ ∀ (j : Nat) (u : Value), (l.map (Value.int .i64))[j]? = some u → w.cell? ⟨b, off + j, none⟩ = some u
theorem RdI.row {w : World} {base n : Nat} {v : Value} {l : List Int} (h : w.ownsRow base 3 1 v n (cellsI l)) : RdI w v l := by
  have hl : l.length = n := by have := h.1; simpa [cellsI] using this
  have hc := @World.ownsRow.cells _ _ _ _ _ _ _ h
  have hlt := h.lt
  rcases h.2 with ⟨rfl, rfl⟩ | ⟨g, cap, cur, rfl, _, _, h1, _⟩
  · exact .inl ⟨rfl, List.eq_nil_of_length_eq_zero hl⟩
  · refine .inr ⟨g, 0, cap, by rw [hl], by omega, (hlt g rfl).2, fun j u hu => ?_⟩
    have h2 := hc rfl j u hu
    rwa [Go.WideShapes.add_plain] at h2
theorem RdI.nil (w : World) : RdI w nilV [] := .inl ⟨rfl, rfl⟩
theorem RdI.kept {F : List Nat} {w w' : World} {v : Value} {l : List Int} (h : RdI w v l) (hk : Kept F w w') (hn : ∀ g, v.ownBlock = some g → g ∉ F) : RdI w' v l := by
  rcases h with h | ⟨b, off, c, rfl, h1, h2, h3⟩
  · exact .inl h
  · exact .inr ⟨b, off, c, rfl, h1, Nat.lt_of_lt_of_le h2 hk.size, fun j u hu => (hk.cell (p := ⟨b, off + j, none⟩) h2 (hn b rfl)).trans (h3 j u hu)⟩
theorem RdI.below {w w' : World} {v : Value} {l : List Int} (h : RdI w v l) (hb : Below w.heap.size w w') : RdI w' v l := h.kept (F := []) (Kept.of_below hb) (fun g _ hF => by simp at hF)
theorem RdI.reads {w : World} {v : Value} {l : List Int} (h : RdI w v l) : Reads1 w w.heap.size v (l.map (.int .i64)) := by
  rcases h with ⟨rfl, rfl⟩ | ⟨b, off, c, rfl, h1, h2, h3⟩
  · exact ⟨none, 0, rfl, fun h => by simp at h⟩
  · exact ⟨some ⟨b, off, none⟩, c, by simp, fun _ => ⟨b, off, rfl, h2, h3⟩⟩

theorem reads_take {w W : World} {b off c : Nat} {l : List Int} {k : Nat} (hcell : ∀ (j : Nat) (u : Value), (l.map (Value.int .i64))[j]? = some u → w.cell? ⟨b, off + j, none⟩ = some u) (hb : b < w.heap.size) (hB : Below w.heap.size w W) (hk : k ≤ l.length) : Reads1 W W.heap.size (.slice (some ⟨b, off, none⟩) k c) (cellsI (l.take k)) := by
  refine ⟨some ⟨b, off, none⟩, c, by simp [cellsI, Nat.min_eq_left hk], fun _ => ⟨b, off, rfl, Nat.lt_of_lt_of_le hb hB.size, fun j u hu => (hB.cell (p := ⟨b, off + j, none⟩) hb).trans (hcell j u ?_)⟩⟩
  unfold cellsI at hu
  rw [List.map_take, List.getElem?_take] at hu
  split at hu
  · exact hu
  · cases hu
theorem reads_drop {w W : World} {b off c : Nat} {l : List Int} {k : Nat} (hcell : ∀ (j : Nat) (u : Value), (l.map (Value.int .i64))[j]? = some u → w.cell? ⟨b, off + j, none⟩ = some u) (hb : b < w.heap.size) (hB : Below w.heap.size w W) : Reads1 W W.heap.size (.slice (some ⟨b, off + k, none⟩) (l.length - k) c) (cellsI (l.drop k)) := by
  refine ⟨some ⟨b, off + k, none⟩, c, by simp [cellsI], fun _ => ⟨b, off + k, rfl, Nat.lt_of_lt_of_le hb hB.size, fun j u hu => (hB.cell (p := ⟨b, off + k + j, none⟩) hb).trans ?_⟩⟩
  rw [Nat.add_assoc]
  refine hcell (k + j) u ?_
  unfold cellsI at hu
  rwa [List.map_drop, List.getElem?_drop] at hu
theorem reads_no {W : World} {A : Option Addr} {c k : Nat} {l : List Int} (hk : l.length ≤ k) : Reads1 W W.heap.size (.slice A 0 c) (cellsI (l.drop k)) := by
  rw [List.drop_eq_nil_of_le hk]
  exact ⟨A, c, rfl, fun h => by simp [cellsI] at h⟩
theorem row_start {w : World} {base k : Nat} {v : Value} {l : List Int} (h : w.ownsRow base 3 1 v (0 + (cellsI (l.take k)).length) ([] ++ cellsI (l.take k))) (hk : k ≤ l.length) : w.ownsRow base 3 1 v k (cellsI (l.take k)) := by
  have e : 0 + (cellsI (l.take k)).length = k := by simp [cellsI, Nat.min_eq_left hk]
  rw [e, List.nil_append] at h
  exact h
theorem no_form {A : Addr} {n c : Nat} : ∀ m d, Value.slice (some A) n c = .slice none m d → m = 0 ∧ d = 0 := fun m d e => by cases e
theorem nil_form : ∀ m d, Value.slice none 0 0 = .slice none m d → m = 0 ∧ d = 0 := fun m d e => by cases e; exact ⟨rfl, rfl⟩

/-- x stands behind the last that is not above it. -/
def InsAt (l : List Int) (x : Int) (m : List Int) : Prop := ∃ k, k ≤ l.length ∧ (∀ j (h : j < l.length), j < k → l[j] ≤ x) ∧ (∀ h : k < l.length, x < l[k]) ∧ m = l.take k ++ x :: l.drop k

set_option maxRecDepth 100000 in
set_option maxHeartbeats 4000000 in
theorem refPut_some {w : World} {b off c : Nat} {l : List Int} (x : Int) (hl : l.length ≤ 100000) (hcp : l.length ≤ c) (hbb : b < w.heap.size) (hcell : ∀ (j : Nat) (u : Value), (l.map (Value.int .i64))[j]? = some u → w.cell? ⟨b, off + j, none⟩ = some u) :
    Calls Tryz.prog 124 #[.slice (some ⟨b, off, none⟩) l.length c, .int .i64 x] w fun e w' => ∃ v' m, e = .returned v' ∧ InsAt l x m ∧ w'.ownsRow w.heap.size 3 1 v' m.length (cellsI m) ∧ Below w.heap.size w w' := by
  obtain ⟨n, hn⟩ : ∃ n, l.length = n := ⟨_, rfl⟩
  rw [hn] at hl hcp ⊢
  have HL := Lib.hid (And.intro hcell (And.intro hbb (And.intro hn hcp)))
  clear hcell hbb hn hcp
  go_enter Tryz.func124, Tryz.ntmps124
  go_wp2_with fail
  go_loopg [5] n (fun g i wr => ∃ k : Nat, i = .int .i64 k ∧ k + g = n ∧ (∀ j (h : j < l.length), j < k → l[j] ≤ x) ∧ Below w.heap.size w wr)
  case atStart => exact ⟨0, rfl, by omega, fun j _ h => absurd h (by omega), Below.refl _ _⟩
  case round =>
    obtain ⟨k, rfl, hkg, hle, hbl⟩ := hrel
    obtain ⟨hcell, hbb, hn, hcp⟩ := HL.out
    have hln := hn
    have HTK := Lib.hid (fun (W : World) (hB : Below w.heap.size w W) => reads_take (c := c) hcell hbb hB (show k ≤ l.length by omega))
    have HD := Lib.hid (fun (W : World) (hB : Below w.heap.size w W) => reads_drop (c := c - k) (k := k) hcell hbb hB)
    have HBd := Lib.hid hbl.drew
    by_cases hlt : k < n
    · have hkl : k < l.length := by omega
      have hq : wr.cell? ⟨b, off + k, none⟩ = some (.int .i64 l[k]) := (hbl.cell (p := ⟨b, off + k, none⟩) hbb).trans (hcell k _ (by simp [hkl]))
      have k1 : (k : Int) < n := by omega
      have k0 : (0 : Int) ≤ k := by omega
      obtain ⟨y, hy⟩ : ∃ y, l[k] = y := ⟨_, rfl⟩
      rw [hy] at hq
      by_cases hcmp : y ≤ x
      · have HR := Lib.hid (And.intro hle (And.intro hbl (And.intro hcmp hy)))
        clear hn hle hbl hcell hbb hy HTK HD HBd
        go_wp2_with fail
        go_roundg (n - (k + 1))
        case measure => omega
        case rel =>
          refine ⟨k + 1, by go_num, by omega, fun j hj hjk => ?_, HR.out.2.1⟩
          rcases Nat.lt_or_ge j k with h | h
          · exact HR.out.1 j hj h
          · obtain rfl : j = k := by omega
            rw [HR.out.2.2.2]
            exact HR.out.2.2.1
      · have hcm : decide (y ≤ x) = false := by simpa using hcmp
        have HI : Hid (InsAt l x (l.take k ++ x :: l.drop k)) := Lib.hid ⟨k, by omega, hle, fun h => by rw [hy]; omega, rfl⟩
        clear hn hle hbl hcell hbb hcmp hy
        go_wp2_with fail
        have hkn : ¬ n < k := by omega
        have hc0 : ¬ c = 0 := by omega
        have hck : ¬ c = k := by omega
        have hkc : (k : Int) ≤ c := by omega
        have hT : True := trivial
        refine wp_region_tills (fun _ => True) 10 (by kernel_rfl) ?_
        refine till_takeAt 20 (i := 0) (v := .slice (some ⟨b, off, none⟩) n c) rfl rfl (by kernel_rfl) (by kernel_rfl) (by kernel_rfl) (by kernel_rfl) (by kernel_rfl) (fun _ _ _ h => h) (Or.inl ⟨by rfl, fun w' hw' => by obtain q1 := hw'; go_simp⟩) hT ?_
        simp only [List.setIfInBounds_toArray, List.set_cons_zero, List.set_cons_succ]
        refine till_takeAt 21 (i := 1) (v := .int .i64 k) rfl rfl (by kernel_rfl) (by kernel_rfl) (by kernel_rfl) (by kernel_rfl) (by kernel_rfl) (fun _ _ _ h => h) (Or.inl ⟨by rfl, fun w' hw' => by obtain q1 := hw'; go_simp⟩) hT ?_
        simp only [List.setIfInBounds_toArray, List.set_cons_zero, List.set_cons_succ]
        refine till_takeAt 22 (i := 2) (v := .slice (some ⟨b, off, none⟩) k c) rfl rfl (by kernel_rfl) (by kernel_rfl) (by kernel_rfl) (by kernel_rfl) (by kernel_rfl) (fun _ _ _ h => h) (Or.inl ⟨by rfl, fun w' hw' => by obtain q1 := hw'; go_simp⟩) hT ?_
        simp only [List.setIfInBounds_toArray, List.set_cons_zero, List.set_cons_succ]
        refine till_takeAt 24 (i := 4) (v := .int .i64 x) rfl rfl (by kernel_rfl) (by kernel_rfl) (by kernel_rfl) (by kernel_rfl) (by kernel_rfl) (fun _ _ _ h => h) (Or.inl ⟨by rfl, fun w' hw' => by obtain q1 := hw'; go_simp⟩) hT ?_
        simp only [List.setIfInBounds_toArray, List.set_cons_zero, List.set_cons_succ]
        refine till_takeAt 27 (i := 7) (v := .slice (some ⟨b, off, none⟩) n c) rfl rfl (by kernel_rfl) (by kernel_rfl) (by kernel_rfl) (by kernel_rfl) (by kernel_rfl) (fun _ _ _ h => h) (Or.inl ⟨by rfl, fun w' hw' => by obtain q1 := hw'; go_simp⟩) hT ?_
        simp only [List.setIfInBounds_toArray, List.set_cons_zero, List.set_cons_succ]
        refine till_takeAt 28 (i := 8) (v := .int .i64 k) rfl rfl (by kernel_rfl) (by kernel_rfl) (by kernel_rfl) (by kernel_rfl) (by kernel_rfl) (fun _ _ _ h => h) (Or.inl ⟨by rfl, fun w' hw' => by obtain q1 := hw'; go_simp⟩) hT ?_
        simp only [List.setIfInBounds_toArray, List.set_cons_zero, List.set_cons_succ]
        refine till_takeAt 29 (i := 9) (v := .slice (some ⟨b, off + k, none⟩) (n - k) (c - k)) rfl rfl (by kernel_rfl) (by kernel_rfl) (by kernel_rfl) (by kernel_rfl) (by kernel_rfl) (fun _ _ _ h => h) (Or.inl ⟨by rfl, fun w' hw' => by obtain q1 := hw'; go_simp⟩) hT ?_
        simp only [List.setIfInBounds_toArray, List.set_cons_zero, List.set_cons_succ]
        refine till_two (i := 3) (j := 5) (by kernel_rfl) rfl rfl rfl rfl (fun K hK => ?_) (fun K hK => ?_)
        · refine wp_append_reads (.const (.slice none 0 0)) (.tmp 22) 49 3 (.int .i64 0) 8 Tryz.underlying49 Tryz.infoInt rfl (by decide) rfl w.heap.size _ (.slice none 0 0) 0 [] (by rfl) (World.ownsRow_nil _ _ _ _) _ (.slice (some ⟨b, off, none⟩) k c) (by rfl) (cellsI (l.take k)) (HTK.out _ HBd.out) no_form int_one (by simp [cellsI]; try omega) HBd.out.size ?_
          intro v1 w1 hr1 hg1
          refine hK _ _ ⟨fun _ => trivial, ?_⟩
          clear hK K
          refine till_one (i := 5) (by kernel_rfl) rfl rfl (fun K hK => ?_)
          go_simp
          refine hK _ _ ⟨fun _ => trivial, ?_⟩
          clear hK K
          have hb1 : Below w.heap.size w w1 := HBd.out.grown hg1 HBd.out.size (fun k hk => by cases hk)
          have HW := Lib.hid (And.intro (World.ownsRow.alloc (row_start hr1 (show k ≤ (l : List Int).length by first | omega | simp)) (.cells #[.int .i64 x] 3)) (And.intro (hb1.alloc hb1.size (.cells #[.int .i64 x] 3)) (show ∀ j u, [Value.int .i64 x][j]? = some u → (w1.alloc (.cells #[.int .i64 x] 3)).cell? ((⟨w1.heap.size, 0, none⟩ : Addr).add j) = some u from cell_one_new w1 _ _)))
          clear hr1 hg1 hb1
          refine till_one (i := 6) (by kernel_rfl) rfl rfl (fun K hK => ?_)
          obtain ⟨i0, hi0, hz0, hz1, hz2⟩ := info_parts Tryz.infoInt
          refine wp_append_own _ (.tmp 23) (.tmp 25) 49 rfl w.heap.size 3 i0 (.int .i64 0) 1 8 Tryz.underlying49 hi0 hz0 hz1 hz2 rfl (by decide) v1 k (cellsI (l.take k)) (by rfl) HW.out.1 ⟨w1.heap.size, 0, none⟩ 1 1 [.int .i64 x] (by rfl) rfl HW.out.2.2 (by intro u hu; simp at hu; subst hu; rfl) (by unfold maxLen; omega) (by omega) HW.out.2.1.size ?_
          intro v2 w3 hr2 hg2 _
          refine hK _ _ ⟨fun _ => trivial, ?_⟩
          clear hK K hi0 hz0 hz1 hz2
          have HV := Lib.hid (And.intro hr2 ((HW.out.2.1.grown hg2 HW.out.2.1.size (fun k hk => (HW.out.1.lt k hk).1))))
          clear hr2 hg2 HW
          refine till_one (i := 10) (by kernel_rfl) rfl rfl (fun K hK => ?_)
          refine wp_append_reads (.tmp 26) (.tmp 29) 49 3 (.int .i64 0) 8 Tryz.underlying49 Tryz.infoInt rfl (by decide) rfl w.heap.size _ v2 (k + 1) _ (by rfl) HV.out.1 _ (.slice (some ⟨b, off + k, none⟩) (n - k) (c - k)) (by rfl) (cellsI (l.drop k)) (by have := HD.out _ HV.out.2; rwa [hln] at this) no_form int_one (by simp [cellsI]; try omega) HV.out.2.size ?_
          intro v3 w4 hr3 hg3
          refine hK _ _ ⟨fun h => absurd h (by omega), ?_⟩
          clear hK K
          have HU := Lib.hid (And.intro hr3 (HV.out.2.grown hg3 HV.out.2.size (fun k hk => (HV.out.1.lt k hk).1)))
          clear hr3 hg3 HV
          refine till_one (i := 11) (by kernel_rfl) rfl rfl (fun K hK => ?_)
          go_simp
          refine hK _ _ ⟨fun h => absurd h (by omega), till_done (by kernel_rfl) ?_ _⟩
          clear hK K
          go_wp2
          go_ret
          exact ⟨v3, l.take k ++ x :: l.drop k, rfl, HI.out, by
            have h := HU.out.1
            have e : cellsI (l.take k) ++ [Value.int .i64 x] ++ cellsI (l.drop k) = cellsI (l.take k ++ x :: l.drop k) := by simp [cellsI]
            rw [e] at h
            have e2 : k + 1 + (cellsI (l.drop k)).length = (l.take k ++ x :: l.drop k).length := by simp [cellsI]; try omega
            rwa [e2] at h, HU.out.2⟩
        · go_simp
          refine hK _ _ ⟨fun _ => trivial, ?_⟩
          clear hK K
          have hba : Below w.heap.size w (wr.alloc (.cells #[.int .i64 x] 3)).drew := HBd.out.alloc HBd.out.size _
          have hcx : ∀ j u, [Value.int .i64 x][j]? = some u → (wr.alloc (.cells #[.int .i64 x] 3)).drew.cell? ((⟨wr.heap.size, 0, none⟩ : Addr).add j) = some u := cell_one_new wr _ _
          generalize (wr.alloc (.cells #[.int .i64 x] 3)).drew = W at *
          generalize wr.heap.size = gx at *
          refine till_one (i := 3) (by kernel_rfl) rfl rfl (fun K hK => ?_)
          refine wp_append_reads (.const (.slice none 0 0)) (.tmp 22) 49 3 (.int .i64 0) 8 Tryz.underlying49 Tryz.infoInt rfl (by decide) rfl w.heap.size _ (.slice none 0 0) 0 [] (by rfl) (World.ownsRow_nil _ _ _ _) _ (.slice (some ⟨b, off, none⟩) k c) (by rfl) (cellsI (l.take k)) (HTK.out _ hba) no_form int_one (by simp [cellsI]; try omega) hba.size ?_
          intro v1 w1 hr1 hg1
          refine hK _ _ ⟨fun _ => trivial, ?_⟩
          clear hK K
          have hb1 : Below w.heap.size w w1 := hba.grown hg1 hba.size (fun k hk => by cases hk)
          have HW := Lib.hid (And.intro (row_start hr1 (show k ≤ (l : List Int).length by first | omega | simp)) (And.intro hb1 (show ∀ j u, [Value.int .i64 x][j]? = some u → w1.cell? ((⟨gx, 0, none⟩ : Addr).add j) = some u from fun j u hu => hg1.cell (hcx j u hu) (by simp [Value.ownBlock]))))
          clear hr1 hg1 hb1 hba hcx
          refine till_one (i := 6) (by kernel_rfl) rfl rfl (fun K hK => ?_)
          obtain ⟨i0, hi0, hz0, hz1, hz2⟩ := info_parts Tryz.infoInt
          refine wp_append_own _ (.tmp 23) (.tmp 25) 49 rfl w.heap.size 3 i0 (.int .i64 0) 1 8 Tryz.underlying49 hi0 hz0 hz1 hz2 rfl (by decide) v1 k (cellsI (l.take k)) (by rfl) HW.out.1 ⟨gx, 0, none⟩ 1 1 [.int .i64 x] (by rfl) rfl HW.out.2.2 (by intro u hu; simp at hu; subst hu; rfl) (by unfold maxLen; omega) (by omega) HW.out.2.1.size ?_
          intro v2 w3 hr2 hg2 _
          refine hK _ _ ⟨fun _ => trivial, ?_⟩
          clear hK K hi0 hz0 hz1 hz2
          have HV := Lib.hid (And.intro hr2 ((HW.out.2.1.grown hg2 HW.out.2.1.size (fun k hk => (HW.out.1.lt k hk).1))))
          clear hr2 hg2 HW
          refine till_one (i := 10) (by kernel_rfl) rfl rfl (fun K hK => ?_)
          refine wp_append_reads (.tmp 26) (.tmp 29) 49 3 (.int .i64 0) 8 Tryz.underlying49 Tryz.infoInt rfl (by decide) rfl w.heap.size _ v2 (k + 1) _ (by rfl) HV.out.1 _ (.slice (some ⟨b, off + k, none⟩) (n - k) (c - k)) (by rfl) (cellsI (l.drop k)) (by have := HD.out _ HV.out.2; rwa [hln] at this) no_form int_one (by simp [cellsI]; try omega) HV.out.2.size ?_
          intro v3 w4 hr3 hg3
          refine hK _ _ ⟨fun h => absurd h (by omega), ?_⟩
          clear hK K
          have HU := Lib.hid (And.intro hr3 (HV.out.2.grown hg3 HV.out.2.size (fun k hk => (HV.out.1.lt k hk).1)))
          clear hr3 hg3 HV
          refine till_one (i := 11) (by kernel_rfl) rfl rfl (fun K hK => ?_)
          go_simp
          refine hK _ _ ⟨fun h => absurd h (by omega), till_done (by kernel_rfl) ?_ _⟩
          clear hK K
          go_wp2
          go_ret
          exact ⟨v3, l.take k ++ x :: l.drop k, rfl, HI.out, by
            have h := HU.out.1
            have e : cellsI (l.take k) ++ [Value.int .i64 x] ++ cellsI (l.drop k) = cellsI (l.take k ++ x :: l.drop k) := by simp [cellsI]
            rw [e] at h
            have e2 : k + 1 + (cellsI (l.drop k)).length = (l.take k ++ x :: l.drop k).length := by simp [cellsI]; try omega
            rwa [e2] at h, HU.out.2⟩
    · obtain rfl : k = n := by omega
      have HI : Hid (InsAt l x (l.take k ++ x :: l.drop k)) := Lib.hid ⟨k, by omega, hle, fun h => by omega, rfl⟩
      clear hn hle hbl hcell hbb
      by_cases hck : c = k
      · subst hck
        go_wp2_with fail
        have hT : True := trivial
        refine wp_region_tills (fun _ => True) 10 (by kernel_rfl) ?_
        refine till_takeAt 20 (i := 0) (v := .slice (some ⟨b, off, none⟩) c c) rfl rfl (by kernel_rfl) (by kernel_rfl) (by kernel_rfl) (by kernel_rfl) (by kernel_rfl) (fun _ _ _ h => h) (Or.inl ⟨by rfl, fun w' hw' => by obtain q1 := hw'; go_simp⟩) hT ?_
        simp only [List.setIfInBounds_toArray, List.set_cons_zero, List.set_cons_succ]
        refine till_takeAt 21 (i := 1) (v := .int .i64 c) rfl rfl (by kernel_rfl) (by kernel_rfl) (by kernel_rfl) (by kernel_rfl) (by kernel_rfl) (fun _ _ _ h => h) (Or.inl ⟨by rfl, fun w' hw' => by obtain q1 := hw'; go_simp⟩) hT ?_
        simp only [List.setIfInBounds_toArray, List.set_cons_zero, List.set_cons_succ]
        refine till_takeAt 22 (i := 2) (v := .slice (some ⟨b, off, none⟩) c c) rfl rfl (by kernel_rfl) (by kernel_rfl) (by kernel_rfl) (by kernel_rfl) (by kernel_rfl) (fun _ _ _ h => h) (Or.inl ⟨by rfl, fun w' hw' => by obtain q1 := hw'; go_simp⟩) hT ?_
        simp only [List.setIfInBounds_toArray, List.set_cons_zero, List.set_cons_succ]
        refine till_takeAt 24 (i := 4) (v := .int .i64 x) rfl rfl (by kernel_rfl) (by kernel_rfl) (by kernel_rfl) (by kernel_rfl) (by kernel_rfl) (fun _ _ _ h => h) (Or.inl ⟨by rfl, fun w' hw' => by obtain q1 := hw'; go_simp⟩) hT ?_
        simp only [List.setIfInBounds_toArray, List.set_cons_zero, List.set_cons_succ]
        refine till_takeAt 27 (i := 7) (v := .slice (some ⟨b, off, none⟩) c c) rfl rfl (by kernel_rfl) (by kernel_rfl) (by kernel_rfl) (by kernel_rfl) (by kernel_rfl) (fun _ _ _ h => h) (Or.inl ⟨by rfl, fun w' hw' => by obtain q1 := hw'; go_simp⟩) hT ?_
        simp only [List.setIfInBounds_toArray, List.set_cons_zero, List.set_cons_succ]
        refine till_takeAt 28 (i := 8) (v := .int .i64 c) rfl rfl (by kernel_rfl) (by kernel_rfl) (by kernel_rfl) (by kernel_rfl) (by kernel_rfl) (fun _ _ _ h => h) (Or.inl ⟨by rfl, fun w' hw' => by obtain q1 := hw'; go_simp⟩) hT ?_
        simp only [List.setIfInBounds_toArray, List.set_cons_zero, List.set_cons_succ]
        refine till_takeAt 29 (i := 9) (v := .slice (some ⟨b, off, none⟩) 0 0) rfl rfl (by kernel_rfl) (by kernel_rfl) (by kernel_rfl) (by kernel_rfl) (by kernel_rfl) (fun _ _ _ h => h) (Or.inl ⟨by rfl, fun w' hw' => by obtain q1 := hw'; go_simp⟩) hT ?_
        simp only [List.setIfInBounds_toArray, List.set_cons_zero, List.set_cons_succ]
        refine till_two (i := 3) (j := 5) (by kernel_rfl) rfl rfl rfl rfl (fun K hK => ?_) (fun K hK => ?_)
        · refine wp_append_reads (.const (.slice none 0 0)) (.tmp 22) 49 3 (.int .i64 0) 8 Tryz.underlying49 Tryz.infoInt rfl (by decide) rfl w.heap.size _ (.slice none 0 0) 0 [] (by rfl) (World.ownsRow_nil _ _ _ _) _ (.slice (some ⟨b, off, none⟩) c c) (by rfl) (cellsI (l.take c)) (HTK.out _ HBd.out) no_form int_one (by simp [cellsI]; try omega) HBd.out.size ?_
          intro v1 w1 hr1 hg1
          refine hK _ _ ⟨fun _ => trivial, ?_⟩
          clear hK K
          refine till_one (i := 5) (by kernel_rfl) rfl rfl (fun K hK => ?_)
          go_simp
          refine hK _ _ ⟨fun _ => trivial, ?_⟩
          clear hK K
          have hb1 : Below w.heap.size w w1 := HBd.out.grown hg1 HBd.out.size (fun k hk => by cases hk)
          have HW := Lib.hid (And.intro (World.ownsRow.alloc (row_start hr1 (show c ≤ (l : List Int).length by first | omega | simp)) (.cells #[.int .i64 x] 3)) (And.intro (hb1.alloc hb1.size (.cells #[.int .i64 x] 3)) (show ∀ j u, [Value.int .i64 x][j]? = some u → (w1.alloc (.cells #[.int .i64 x] 3)).cell? ((⟨w1.heap.size, 0, none⟩ : Addr).add j) = some u from cell_one_new w1 _ _)))
          clear hr1 hg1 hb1
          refine till_one (i := 6) (by kernel_rfl) rfl rfl (fun K hK => ?_)
          obtain ⟨i0, hi0, hz0, hz1, hz2⟩ := info_parts Tryz.infoInt
          refine wp_append_own _ (.tmp 23) (.tmp 25) 49 rfl w.heap.size 3 i0 (.int .i64 0) 1 8 Tryz.underlying49 hi0 hz0 hz1 hz2 rfl (by decide) v1 c (cellsI (l.take c)) (by rfl) HW.out.1 ⟨w1.heap.size, 0, none⟩ 1 1 [.int .i64 x] (by rfl) rfl HW.out.2.2 (by intro u hu; simp at hu; subst hu; rfl) (by unfold maxLen; omega) (by omega) HW.out.2.1.size ?_
          intro v2 w3 hr2 hg2 _
          refine hK _ _ ⟨fun _ => trivial, ?_⟩
          clear hK K hi0 hz0 hz1 hz2
          have HV := Lib.hid (And.intro hr2 ((HW.out.2.1.grown hg2 HW.out.2.1.size (fun k hk => (HW.out.1.lt k hk).1))))
          clear hr2 hg2 HW
          refine till_one (i := 10) (by kernel_rfl) rfl rfl (fun K hK => ?_)
          refine wp_append_reads (.tmp 26) (.tmp 29) 49 3 (.int .i64 0) 8 Tryz.underlying49 Tryz.infoInt rfl (by decide) rfl w.heap.size _ v2 (c + 1) _ (by rfl) HV.out.1 _ (.slice (some ⟨b, off, none⟩) 0 0) (by rfl) (cellsI (l.drop c)) (reads_no (by omega)) no_form int_one (by simp [cellsI]; try omega) HV.out.2.size ?_
          intro v3 w4 hr3 hg3
          refine hK _ _ ⟨fun h => absurd h (by omega), ?_⟩
          clear hK K
          have HU := Lib.hid (And.intro hr3 (HV.out.2.grown hg3 HV.out.2.size (fun k hk => (HV.out.1.lt k hk).1)))
          clear hr3 hg3 HV
          refine till_one (i := 11) (by kernel_rfl) rfl rfl (fun K hK => ?_)
          go_simp
          refine hK _ _ ⟨fun h => absurd h (by omega), till_done (by kernel_rfl) ?_ _⟩
          clear hK K
          go_wp2
          go_ret
          exact ⟨v3, l.take c ++ x :: l.drop c, rfl, HI.out, by
            have h := HU.out.1
            have e : cellsI (l.take c) ++ [Value.int .i64 x] ++ cellsI (l.drop c) = cellsI (l.take c ++ x :: l.drop c) := by simp [cellsI]
            rw [e] at h
            have e2 : c + 1 + (cellsI (l.drop c)).length = (l.take c ++ x :: l.drop c).length := by simp [cellsI]; try omega
            rwa [e2] at h, HU.out.2⟩
        · go_simp
          refine hK _ _ ⟨fun _ => trivial, ?_⟩
          clear hK K
          have hba : Below w.heap.size w (wr.alloc (.cells #[.int .i64 x] 3)).drew := HBd.out.alloc HBd.out.size _
          have hcx : ∀ j u, [Value.int .i64 x][j]? = some u → (wr.alloc (.cells #[.int .i64 x] 3)).drew.cell? ((⟨wr.heap.size, 0, none⟩ : Addr).add j) = some u := cell_one_new wr _ _
          generalize (wr.alloc (.cells #[.int .i64 x] 3)).drew = W at *
          generalize wr.heap.size = gx at *
          refine till_one (i := 3) (by kernel_rfl) rfl rfl (fun K hK => ?_)
          refine wp_append_reads (.const (.slice none 0 0)) (.tmp 22) 49 3 (.int .i64 0) 8 Tryz.underlying49 Tryz.infoInt rfl (by decide) rfl w.heap.size _ (.slice none 0 0) 0 [] (by rfl) (World.ownsRow_nil _ _ _ _) _ (.slice (some ⟨b, off, none⟩) c c) (by rfl) (cellsI (l.take c)) (HTK.out _ hba) no_form int_one (by simp [cellsI]; try omega) hba.size ?_
          intro v1 w1 hr1 hg1
          refine hK _ _ ⟨fun _ => trivial, ?_⟩
          clear hK K
          have hb1 : Below w.heap.size w w1 := hba.grown hg1 hba.size (fun k hk => by cases hk)
          have HW := Lib.hid (And.intro (row_start hr1 (show c ≤ (l : List Int).length by first | omega | simp)) (And.intro hb1 (show ∀ j u, [Value.int .i64 x][j]? = some u → w1.cell? ((⟨gx, 0, none⟩ : Addr).add j) = some u from fun j u hu => hg1.cell (hcx j u hu) (by simp [Value.ownBlock]))))
          clear hr1 hg1 hb1 hba hcx
          refine till_one (i := 6) (by kernel_rfl) rfl rfl (fun K hK => ?_)
          obtain ⟨i0, hi0, hz0, hz1, hz2⟩ := info_parts Tryz.infoInt
          refine wp_append_own _ (.tmp 23) (.tmp 25) 49 rfl w.heap.size 3 i0 (.int .i64 0) 1 8 Tryz.underlying49 hi0 hz0 hz1 hz2 rfl (by decide) v1 c (cellsI (l.take c)) (by rfl) HW.out.1 ⟨gx, 0, none⟩ 1 1 [.int .i64 x] (by rfl) rfl HW.out.2.2 (by intro u hu; simp at hu; subst hu; rfl) (by unfold maxLen; omega) (by omega) HW.out.2.1.size ?_
          intro v2 w3 hr2 hg2 _
          refine hK _ _ ⟨fun _ => trivial, ?_⟩
          clear hK K hi0 hz0 hz1 hz2
          have HV := Lib.hid (And.intro hr2 ((HW.out.2.1.grown hg2 HW.out.2.1.size (fun k hk => (HW.out.1.lt k hk).1))))
          clear hr2 hg2 HW
          refine till_one (i := 10) (by kernel_rfl) rfl rfl (fun K hK => ?_)
          refine wp_append_reads (.tmp 26) (.tmp 29) 49 3 (.int .i64 0) 8 Tryz.underlying49 Tryz.infoInt rfl (by decide) rfl w.heap.size _ v2 (c + 1) _ (by rfl) HV.out.1 _ (.slice (some ⟨b, off, none⟩) 0 0) (by rfl) (cellsI (l.drop c)) (reads_no (by omega)) no_form int_one (by simp [cellsI]; try omega) HV.out.2.size ?_
          intro v3 w4 hr3 hg3
          refine hK _ _ ⟨fun h => absurd h (by omega), ?_⟩
          clear hK K
          have HU := Lib.hid (And.intro hr3 (HV.out.2.grown hg3 HV.out.2.size (fun k hk => (HV.out.1.lt k hk).1)))
          clear hr3 hg3 HV
          refine till_one (i := 11) (by kernel_rfl) rfl rfl (fun K hK => ?_)
          go_simp
          refine hK _ _ ⟨fun h => absurd h (by omega), till_done (by kernel_rfl) ?_ _⟩
          clear hK K
          go_wp2
          go_ret
          exact ⟨v3, l.take c ++ x :: l.drop c, rfl, HI.out, by
            have h := HU.out.1
            have e : cellsI (l.take c) ++ [Value.int .i64 x] ++ cellsI (l.drop c) = cellsI (l.take c ++ x :: l.drop c) := by simp [cellsI]
            rw [e] at h
            have e2 : c + 1 + (cellsI (l.drop c)).length = (l.take c ++ x :: l.drop c).length := by simp [cellsI]; try omega
            rwa [e2] at h, HU.out.2⟩
      · go_wp2_with fail
        have hkc : (k : Int) ≤ c := by omega
        have hc0 : ¬ c = 0 := by omega
        have hT : True := trivial
        refine wp_region_tills (fun _ => True) 10 (by kernel_rfl) ?_
        refine till_takeAt 20 (i := 0) (v := .slice (some ⟨b, off, none⟩) k c) rfl rfl (by kernel_rfl) (by kernel_rfl) (by kernel_rfl) (by kernel_rfl) (by kernel_rfl) (fun _ _ _ h => h) (Or.inl ⟨by rfl, fun w' hw' => by obtain q1 := hw'; go_simp⟩) hT ?_
        simp only [List.setIfInBounds_toArray, List.set_cons_zero, List.set_cons_succ]
        refine till_takeAt 21 (i := 1) (v := .int .i64 k) rfl rfl (by kernel_rfl) (by kernel_rfl) (by kernel_rfl) (by kernel_rfl) (by kernel_rfl) (fun _ _ _ h => h) (Or.inl ⟨by rfl, fun w' hw' => by obtain q1 := hw'; go_simp⟩) hT ?_
        simp only [List.setIfInBounds_toArray, List.set_cons_zero, List.set_cons_succ]
        refine till_takeAt 22 (i := 2) (v := .slice (some ⟨b, off, none⟩) k c) rfl rfl (by kernel_rfl) (by kernel_rfl) (by kernel_rfl) (by kernel_rfl) (by kernel_rfl) (fun _ _ _ h => h) (Or.inl ⟨by rfl, fun w' hw' => by obtain q1 := hw'; go_simp⟩) hT ?_
        simp only [List.setIfInBounds_toArray, List.set_cons_zero, List.set_cons_succ]
        refine till_takeAt 24 (i := 4) (v := .int .i64 x) rfl rfl (by kernel_rfl) (by kernel_rfl) (by kernel_rfl) (by kernel_rfl) (by kernel_rfl) (fun _ _ _ h => h) (Or.inl ⟨by rfl, fun w' hw' => by obtain q1 := hw'; go_simp⟩) hT ?_
        simp only [List.setIfInBounds_toArray, List.set_cons_zero, List.set_cons_succ]
        refine till_takeAt 27 (i := 7) (v := .slice (some ⟨b, off, none⟩) k c) rfl rfl (by kernel_rfl) (by kernel_rfl) (by kernel_rfl) (by kernel_rfl) (by kernel_rfl) (fun _ _ _ h => h) (Or.inl ⟨by rfl, fun w' hw' => by obtain q1 := hw'; go_simp⟩) hT ?_
        simp only [List.setIfInBounds_toArray, List.set_cons_zero, List.set_cons_succ]
        refine till_takeAt 28 (i := 8) (v := .int .i64 k) rfl rfl (by kernel_rfl) (by kernel_rfl) (by kernel_rfl) (by kernel_rfl) (by kernel_rfl) (fun _ _ _ h => h) (Or.inl ⟨by rfl, fun w' hw' => by obtain q1 := hw'; go_simp⟩) hT ?_
        simp only [List.setIfInBounds_toArray, List.set_cons_zero, List.set_cons_succ]
        refine till_takeAt 29 (i := 9) (v := .slice (some ⟨b, off + k, none⟩) 0 (c - k)) rfl rfl (by kernel_rfl) (by kernel_rfl) (by kernel_rfl) (by kernel_rfl) (by kernel_rfl) (fun _ _ _ h => h) (Or.inl ⟨by rfl, fun w' hw' => by obtain q1 := hw'; go_simp⟩) hT ?_
        simp only [List.setIfInBounds_toArray, List.set_cons_zero, List.set_cons_succ]
        refine till_two (i := 3) (j := 5) (by kernel_rfl) rfl rfl rfl rfl (fun K hK => ?_) (fun K hK => ?_)
        · refine wp_append_reads (.const (.slice none 0 0)) (.tmp 22) 49 3 (.int .i64 0) 8 Tryz.underlying49 Tryz.infoInt rfl (by decide) rfl w.heap.size _ (.slice none 0 0) 0 [] (by rfl) (World.ownsRow_nil _ _ _ _) _ (.slice (some ⟨b, off, none⟩) k c) (by rfl) (cellsI (l.take k)) (HTK.out _ HBd.out) no_form int_one (by simp [cellsI]; try omega) HBd.out.size ?_
          intro v1 w1 hr1 hg1
          refine hK _ _ ⟨fun _ => trivial, ?_⟩
          clear hK K
          refine till_one (i := 5) (by kernel_rfl) rfl rfl (fun K hK => ?_)
          go_simp
          refine hK _ _ ⟨fun _ => trivial, ?_⟩
          clear hK K
          have hb1 : Below w.heap.size w w1 := HBd.out.grown hg1 HBd.out.size (fun k hk => by cases hk)
          have HW := Lib.hid (And.intro (World.ownsRow.alloc (row_start hr1 (show k ≤ (l : List Int).length by first | omega | simp)) (.cells #[.int .i64 x] 3)) (And.intro (hb1.alloc hb1.size (.cells #[.int .i64 x] 3)) (show ∀ j u, [Value.int .i64 x][j]? = some u → (w1.alloc (.cells #[.int .i64 x] 3)).cell? ((⟨w1.heap.size, 0, none⟩ : Addr).add j) = some u from cell_one_new w1 _ _)))
          clear hr1 hg1 hb1
          refine till_one (i := 6) (by kernel_rfl) rfl rfl (fun K hK => ?_)
          obtain ⟨i0, hi0, hz0, hz1, hz2⟩ := info_parts Tryz.infoInt
          refine wp_append_own _ (.tmp 23) (.tmp 25) 49 rfl w.heap.size 3 i0 (.int .i64 0) 1 8 Tryz.underlying49 hi0 hz0 hz1 hz2 rfl (by decide) v1 k (cellsI (l.take k)) (by rfl) HW.out.1 ⟨w1.heap.size, 0, none⟩ 1 1 [.int .i64 x] (by rfl) rfl HW.out.2.2 (by intro u hu; simp at hu; subst hu; rfl) (by unfold maxLen; omega) (by omega) HW.out.2.1.size ?_
          intro v2 w3 hr2 hg2 _
          refine hK _ _ ⟨fun _ => trivial, ?_⟩
          clear hK K hi0 hz0 hz1 hz2
          have HV := Lib.hid (And.intro hr2 ((HW.out.2.1.grown hg2 HW.out.2.1.size (fun k hk => (HW.out.1.lt k hk).1))))
          clear hr2 hg2 HW
          refine till_one (i := 10) (by kernel_rfl) rfl rfl (fun K hK => ?_)
          refine wp_append_reads (.tmp 26) (.tmp 29) 49 3 (.int .i64 0) 8 Tryz.underlying49 Tryz.infoInt rfl (by decide) rfl w.heap.size _ v2 (k + 1) _ (by rfl) HV.out.1 _ (.slice (some ⟨b, off + k, none⟩) 0 (c - k)) (by rfl) (cellsI (l.drop k)) (reads_no (by omega)) no_form int_one (by simp [cellsI]; try omega) HV.out.2.size ?_
          intro v3 w4 hr3 hg3
          refine hK _ _ ⟨fun h => absurd h (by omega), ?_⟩
          clear hK K
          have HU := Lib.hid (And.intro hr3 (HV.out.2.grown hg3 HV.out.2.size (fun k hk => (HV.out.1.lt k hk).1)))
          clear hr3 hg3 HV
          refine till_one (i := 11) (by kernel_rfl) rfl rfl (fun K hK => ?_)
          go_simp
          refine hK _ _ ⟨fun h => absurd h (by omega), till_done (by kernel_rfl) ?_ _⟩
          clear hK K
          go_wp2
          go_ret
          exact ⟨v3, l.take k ++ x :: l.drop k, rfl, HI.out, by
            have h := HU.out.1
            have e : cellsI (l.take k) ++ [Value.int .i64 x] ++ cellsI (l.drop k) = cellsI (l.take k ++ x :: l.drop k) := by simp [cellsI]
            rw [e] at h
            have e2 : k + 1 + (cellsI (l.drop k)).length = (l.take k ++ x :: l.drop k).length := by simp [cellsI]; try omega
            rwa [e2] at h, HU.out.2⟩
        · go_simp
          refine hK _ _ ⟨fun _ => trivial, ?_⟩
          clear hK K
          have hba : Below w.heap.size w (wr.alloc (.cells #[.int .i64 x] 3)).drew := HBd.out.alloc HBd.out.size _
          have hcx : ∀ j u, [Value.int .i64 x][j]? = some u → (wr.alloc (.cells #[.int .i64 x] 3)).drew.cell? ((⟨wr.heap.size, 0, none⟩ : Addr).add j) = some u := cell_one_new wr _ _
          generalize (wr.alloc (.cells #[.int .i64 x] 3)).drew = W at *
          generalize wr.heap.size = gx at *
          refine till_one (i := 3) (by kernel_rfl) rfl rfl (fun K hK => ?_)
          refine wp_append_reads (.const (.slice none 0 0)) (.tmp 22) 49 3 (.int .i64 0) 8 Tryz.underlying49 Tryz.infoInt rfl (by decide) rfl w.heap.size _ (.slice none 0 0) 0 [] (by rfl) (World.ownsRow_nil _ _ _ _) _ (.slice (some ⟨b, off, none⟩) k c) (by rfl) (cellsI (l.take k)) (HTK.out _ hba) no_form int_one (by simp [cellsI]; try omega) hba.size ?_
          intro v1 w1 hr1 hg1
          refine hK _ _ ⟨fun _ => trivial, ?_⟩
          clear hK K
          have hb1 : Below w.heap.size w w1 := hba.grown hg1 hba.size (fun k hk => by cases hk)
          have HW := Lib.hid (And.intro (row_start hr1 (show k ≤ (l : List Int).length by first | omega | simp)) (And.intro hb1 (show ∀ j u, [Value.int .i64 x][j]? = some u → w1.cell? ((⟨gx, 0, none⟩ : Addr).add j) = some u from fun j u hu => hg1.cell (hcx j u hu) (by simp [Value.ownBlock]))))
          clear hr1 hg1 hb1 hba hcx
          refine till_one (i := 6) (by kernel_rfl) rfl rfl (fun K hK => ?_)
          obtain ⟨i0, hi0, hz0, hz1, hz2⟩ := info_parts Tryz.infoInt
          refine wp_append_own _ (.tmp 23) (.tmp 25) 49 rfl w.heap.size 3 i0 (.int .i64 0) 1 8 Tryz.underlying49 hi0 hz0 hz1 hz2 rfl (by decide) v1 k (cellsI (l.take k)) (by rfl) HW.out.1 ⟨gx, 0, none⟩ 1 1 [.int .i64 x] (by rfl) rfl HW.out.2.2 (by intro u hu; simp at hu; subst hu; rfl) (by unfold maxLen; omega) (by omega) HW.out.2.1.size ?_
          intro v2 w3 hr2 hg2 _
          refine hK _ _ ⟨fun _ => trivial, ?_⟩
          clear hK K hi0 hz0 hz1 hz2
          have HV := Lib.hid (And.intro hr2 ((HW.out.2.1.grown hg2 HW.out.2.1.size (fun k hk => (HW.out.1.lt k hk).1))))
          clear hr2 hg2 HW
          refine till_one (i := 10) (by kernel_rfl) rfl rfl (fun K hK => ?_)
          refine wp_append_reads (.tmp 26) (.tmp 29) 49 3 (.int .i64 0) 8 Tryz.underlying49 Tryz.infoInt rfl (by decide) rfl w.heap.size _ v2 (k + 1) _ (by rfl) HV.out.1 _ (.slice (some ⟨b, off + k, none⟩) 0 (c - k)) (by rfl) (cellsI (l.drop k)) (reads_no (by omega)) no_form int_one (by simp [cellsI]; try omega) HV.out.2.size ?_
          intro v3 w4 hr3 hg3
          refine hK _ _ ⟨fun h => absurd h (by omega), ?_⟩
          clear hK K
          have HU := Lib.hid (And.intro hr3 (HV.out.2.grown hg3 HV.out.2.size (fun k hk => (HV.out.1.lt k hk).1)))
          clear hr3 hg3 HV
          refine till_one (i := 11) (by kernel_rfl) rfl rfl (fun K hK => ?_)
          go_simp
          refine hK _ _ ⟨fun h => absurd h (by omega), till_done (by kernel_rfl) ?_ _⟩
          clear hK K
          go_wp2
          go_ret
          exact ⟨v3, l.take k ++ x :: l.drop k, rfl, HI.out, by
            have h := HU.out.1
            have e : cellsI (l.take k) ++ [Value.int .i64 x] ++ cellsI (l.drop k) = cellsI (l.take k ++ x :: l.drop k) := by simp [cellsI]
            rw [e] at h
            have e2 : k + 1 + (cellsI (l.drop k)).length = (l.take k ++ x :: l.drop k).length := by simp [cellsI]; try omega
            rwa [e2] at h, HU.out.2⟩

set_option maxRecDepth 100000 in
set_option maxHeartbeats 4000000 in
theorem refPut_nil {w : World} (x : Int) :
    Calls Tryz.prog 124 #[.slice none 0 0, .int .i64 x] w fun e w' => ∃ v' m, e = .returned v' ∧ InsAt [] x m ∧ w'.ownsRow w.heap.size 3 1 v' m.length (cellsI m) ∧ Below w.heap.size w w' := by
  have HI : Hid (InsAt [] x (([] : List Int).take 0 ++ x :: ([] : List Int).drop 0)) := Lib.hid ⟨0, by simp, fun j h => by simp at h, fun h => by simp at h, rfl⟩
  have HTK := Lib.hid (fun (W : World) (_ : Below w.heap.size w W) => (⟨none, 0, rfl, fun h => by simp [cellsI] at h⟩ : Reads1 W W.heap.size (.slice none 0 0) (cellsI (([] : List Int).take 0))))
  go_enter Tryz.func124, Tryz.ntmps124
  go_wp2_with fail
  go_loopg [5] 0 (fun g i wr => i = .int .i64 0 ∧ Below w.heap.size w wr)
  case atStart => exact ⟨rfl, Below.refl _ _⟩
  case round =>
    obtain ⟨rfl, hbl⟩ := hrel
    have HBd := Lib.hid hbl.drew
    clear hbl
    go_wp2_with fail
    have hT : True := trivial
    refine wp_region_tills (fun _ => True) 10 (by kernel_rfl) ?_
    refine till_takeAt 20 (i := 0) (v := .slice none 0 0) rfl rfl (by kernel_rfl) (by kernel_rfl) (by kernel_rfl) (by kernel_rfl) (by kernel_rfl) (fun _ _ _ h => h) (Or.inl ⟨by rfl, fun w' hw' => by obtain q1 := hw'; go_simp⟩) hT ?_
    simp only [List.setIfInBounds_toArray, List.set_cons_zero, List.set_cons_succ]
    refine till_takeAt 21 (i := 1) (v := .int .i64 0) rfl rfl (by kernel_rfl) (by kernel_rfl) (by kernel_rfl) (by kernel_rfl) (by kernel_rfl) (fun _ _ _ h => h) (Or.inl ⟨by rfl, fun w' hw' => by obtain q1 := hw'; go_simp⟩) hT ?_
    simp only [List.setIfInBounds_toArray, List.set_cons_zero, List.set_cons_succ]
    refine till_takeAt 22 (i := 2) (v := .slice none 0 0) rfl rfl (by kernel_rfl) (by kernel_rfl) (by kernel_rfl) (by kernel_rfl) (by kernel_rfl) (fun _ _ _ h => h) (Or.inl ⟨by rfl, fun w' hw' => by obtain q1 := hw'; go_simp⟩) hT ?_
    simp only [List.setIfInBounds_toArray, List.set_cons_zero, List.set_cons_succ]
    refine till_takeAt 24 (i := 4) (v := .int .i64 x) rfl rfl (by kernel_rfl) (by kernel_rfl) (by kernel_rfl) (by kernel_rfl) (by kernel_rfl) (fun _ _ _ h => h) (Or.inl ⟨by rfl, fun w' hw' => by obtain q1 := hw'; go_simp⟩) hT ?_
    simp only [List.setIfInBounds_toArray, List.set_cons_zero, List.set_cons_succ]
    refine till_takeAt 27 (i := 7) (v := .slice none 0 0) rfl rfl (by kernel_rfl) (by kernel_rfl) (by kernel_rfl) (by kernel_rfl) (by kernel_rfl) (fun _ _ _ h => h) (Or.inl ⟨by rfl, fun w' hw' => by obtain q1 := hw'; go_simp⟩) hT ?_
    simp only [List.setIfInBounds_toArray, List.set_cons_zero, List.set_cons_succ]
    refine till_takeAt 28 (i := 8) (v := .int .i64 0) rfl rfl (by kernel_rfl) (by kernel_rfl) (by kernel_rfl) (by kernel_rfl) (by kernel_rfl) (fun _ _ _ h => h) (Or.inl ⟨by rfl, fun w' hw' => by obtain q1 := hw'; go_simp⟩) hT ?_
    simp only [List.setIfInBounds_toArray, List.set_cons_zero, List.set_cons_succ]
    refine till_takeAt 29 (i := 9) (v := .slice none 0 0) rfl rfl (by kernel_rfl) (by kernel_rfl) (by kernel_rfl) (by kernel_rfl) (by kernel_rfl) (fun _ _ _ h => h) (Or.inl ⟨by rfl, fun w' hw' => by obtain q1 := hw'; go_simp⟩) hT ?_
    simp only [List.setIfInBounds_toArray, List.set_cons_zero, List.set_cons_succ]
    refine till_two (i := 3) (j := 5) (by kernel_rfl) rfl rfl rfl rfl (fun K hK => ?_) (fun K hK => ?_)
    · refine wp_append_reads (.const (.slice none 0 0)) (.tmp 22) 49 3 (.int .i64 0) 8 Tryz.underlying49 Tryz.infoInt rfl (by decide) rfl w.heap.size _ (.slice none 0 0) 0 [] (by rfl) (World.ownsRow_nil _ _ _ _) _ (.slice none 0 0) (by rfl) (cellsI (([] : List Int).take 0)) (HTK.out _ HBd.out) nil_form int_one (by simp [cellsI]; try omega) HBd.out.size ?_
      intro v1 w1 hr1 hg1
      refine hK _ _ ⟨fun _ => trivial, ?_⟩
      clear hK K
      refine till_one (i := 5) (by kernel_rfl) rfl rfl (fun K hK => ?_)
      go_simp
      refine hK _ _ ⟨fun _ => trivial, ?_⟩
      clear hK K
      have hb1 : Below w.heap.size w w1 := HBd.out.grown hg1 HBd.out.size (fun k hk => by cases hk)
      have HW := Lib.hid (And.intro (World.ownsRow.alloc (row_start hr1 (show 0 ≤ (([] : List Int) : List Int).length by first | omega | simp)) (.cells #[.int .i64 x] 3)) (And.intro (hb1.alloc hb1.size (.cells #[.int .i64 x] 3)) (show ∀ j u, [Value.int .i64 x][j]? = some u → (w1.alloc (.cells #[.int .i64 x] 3)).cell? ((⟨w1.heap.size, 0, none⟩ : Addr).add j) = some u from cell_one_new w1 _ _)))
      clear hr1 hg1 hb1
      refine till_one (i := 6) (by kernel_rfl) rfl rfl (fun K hK => ?_)
      obtain ⟨i0, hi0, hz0, hz1, hz2⟩ := info_parts Tryz.infoInt
      refine wp_append_own _ (.tmp 23) (.tmp 25) 49 rfl w.heap.size 3 i0 (.int .i64 0) 1 8 Tryz.underlying49 hi0 hz0 hz1 hz2 rfl (by decide) v1 0 (cellsI (([] : List Int).take 0)) (by rfl) HW.out.1 ⟨w1.heap.size, 0, none⟩ 1 1 [.int .i64 x] (by rfl) rfl HW.out.2.2 (by intro u hu; simp at hu; subst hu; rfl) (by unfold maxLen; omega) (by omega) HW.out.2.1.size ?_
      intro v2 w3 hr2 hg2 _
      refine hK _ _ ⟨fun _ => trivial, ?_⟩
      clear hK K hi0 hz0 hz1 hz2
      have HV := Lib.hid (And.intro hr2 ((HW.out.2.1.grown hg2 HW.out.2.1.size (fun k hk => (HW.out.1.lt k hk).1))))
      clear hr2 hg2 HW
      refine till_one (i := 10) (by kernel_rfl) rfl rfl (fun K hK => ?_)
      refine wp_append_reads (.tmp 26) (.tmp 29) 49 3 (.int .i64 0) 8 Tryz.underlying49 Tryz.infoInt rfl (by decide) rfl w.heap.size _ v2 (0 + 1) _ (by rfl) HV.out.1 _ (.slice none 0 0) (by rfl) (cellsI (([] : List Int).drop 0)) (reads_no (by simp)) nil_form int_one (by simp [cellsI]; try omega) HV.out.2.size ?_
      intro v3 w4 hr3 hg3
      refine hK _ _ ⟨fun h => absurd h (by omega), ?_⟩
      clear hK K
      have HU := Lib.hid (And.intro hr3 (HV.out.2.grown hg3 HV.out.2.size (fun k hk => (HV.out.1.lt k hk).1)))
      clear hr3 hg3 HV
      refine till_one (i := 11) (by kernel_rfl) rfl rfl (fun K hK => ?_)
      go_simp
      refine hK _ _ ⟨fun h => absurd h (by omega), till_done (by kernel_rfl) ?_ _⟩
      clear hK K
      go_wp2
      go_ret
      exact ⟨v3, ([] : List Int).take 0 ++ x :: ([] : List Int).drop 0, rfl, HI.out, by
        have h := HU.out.1
        have e : cellsI (([] : List Int).take 0) ++ [Value.int .i64 x] ++ cellsI (([] : List Int).drop 0) = cellsI (([] : List Int).take 0 ++ x :: ([] : List Int).drop 0) := by simp [cellsI]
        rw [e] at h
        have e2 : 0 + 1 + (cellsI (([] : List Int).drop 0)).length = (([] : List Int).take 0 ++ x :: ([] : List Int).drop 0).length := by simp [cellsI]; try omega
        rwa [e2] at h, HU.out.2⟩
    · go_simp
      refine hK _ _ ⟨fun _ => trivial, ?_⟩
      clear hK K
      have hba : Below w.heap.size w (wr.alloc (.cells #[.int .i64 x] 3)).drew := HBd.out.alloc HBd.out.size _
      have hcx : ∀ j u, [Value.int .i64 x][j]? = some u → (wr.alloc (.cells #[.int .i64 x] 3)).drew.cell? ((⟨wr.heap.size, 0, none⟩ : Addr).add j) = some u := cell_one_new wr _ _
      generalize (wr.alloc (.cells #[.int .i64 x] 3)).drew = W at *
      generalize wr.heap.size = gx at *
      refine till_one (i := 3) (by kernel_rfl) rfl rfl (fun K hK => ?_)
      refine wp_append_reads (.const (.slice none 0 0)) (.tmp 22) 49 3 (.int .i64 0) 8 Tryz.underlying49 Tryz.infoInt rfl (by decide) rfl w.heap.size _ (.slice none 0 0) 0 [] (by rfl) (World.ownsRow_nil _ _ _ _) _ (.slice none 0 0) (by rfl) (cellsI (([] : List Int).take 0)) (HTK.out _ hba) nil_form int_one (by simp [cellsI]; try omega) hba.size ?_
      intro v1 w1 hr1 hg1
      refine hK _ _ ⟨fun _ => trivial, ?_⟩
      clear hK K
      have hb1 : Below w.heap.size w w1 := hba.grown hg1 hba.size (fun k hk => by cases hk)
      have HW := Lib.hid (And.intro (row_start hr1 (show 0 ≤ (([] : List Int) : List Int).length by first | omega | simp)) (And.intro hb1 (show ∀ j u, [Value.int .i64 x][j]? = some u → w1.cell? ((⟨gx, 0, none⟩ : Addr).add j) = some u from fun j u hu => hg1.cell (hcx j u hu) (by simp [Value.ownBlock]))))
      clear hr1 hg1 hb1 hba hcx
      refine till_one (i := 6) (by kernel_rfl) rfl rfl (fun K hK => ?_)
      obtain ⟨i0, hi0, hz0, hz1, hz2⟩ := info_parts Tryz.infoInt
      refine wp_append_own _ (.tmp 23) (.tmp 25) 49 rfl w.heap.size 3 i0 (.int .i64 0) 1 8 Tryz.underlying49 hi0 hz0 hz1 hz2 rfl (by decide) v1 0 (cellsI (([] : List Int).take 0)) (by rfl) HW.out.1 ⟨gx, 0, none⟩ 1 1 [.int .i64 x] (by rfl) rfl HW.out.2.2 (by intro u hu; simp at hu; subst hu; rfl) (by unfold maxLen; omega) (by omega) HW.out.2.1.size ?_
      intro v2 w3 hr2 hg2 _
      refine hK _ _ ⟨fun _ => trivial, ?_⟩
      clear hK K hi0 hz0 hz1 hz2
      have HV := Lib.hid (And.intro hr2 ((HW.out.2.1.grown hg2 HW.out.2.1.size (fun k hk => (HW.out.1.lt k hk).1))))
      clear hr2 hg2 HW
      refine till_one (i := 10) (by kernel_rfl) rfl rfl (fun K hK => ?_)
      refine wp_append_reads (.tmp 26) (.tmp 29) 49 3 (.int .i64 0) 8 Tryz.underlying49 Tryz.infoInt rfl (by decide) rfl w.heap.size _ v2 (0 + 1) _ (by rfl) HV.out.1 _ (.slice none 0 0) (by rfl) (cellsI (([] : List Int).drop 0)) (reads_no (by simp)) nil_form int_one (by simp [cellsI]; try omega) HV.out.2.size ?_
      intro v3 w4 hr3 hg3
      refine hK _ _ ⟨fun h => absurd h (by omega), ?_⟩
      clear hK K
      have HU := Lib.hid (And.intro hr3 (HV.out.2.grown hg3 HV.out.2.size (fun k hk => (HV.out.1.lt k hk).1)))
      clear hr3 hg3 HV
      refine till_one (i := 11) (by kernel_rfl) rfl rfl (fun K hK => ?_)
      go_simp
      refine hK _ _ ⟨fun h => absurd h (by omega), till_done (by kernel_rfl) ?_ _⟩
      clear hK K
      go_wp2
      go_ret
      exact ⟨v3, ([] : List Int).take 0 ++ x :: ([] : List Int).drop 0, rfl, HI.out, by
        have h := HU.out.1
        have e : cellsI (([] : List Int).take 0) ++ [Value.int .i64 x] ++ cellsI (([] : List Int).drop 0) = cellsI (([] : List Int).take 0 ++ x :: ([] : List Int).drop 0) := by simp [cellsI]
        rw [e] at h
        have e2 : 0 + 1 + (cellsI (([] : List Int).drop 0)).length = (([] : List Int).take 0 ++ x :: ([] : List Int).drop 0).length := by simp [cellsI]; try omega
        rwa [e2] at h, HU.out.2⟩

theorem refPut_any {w : World} {v : Value} {l : List Int} (x : Int) (h : RdI w v l) (hl : l.length ≤ 100000) :
    Calls Tryz.prog 124 #[v, .int .i64 x] w fun e w' => ∃ v' m, e = .returned v' ∧ InsAt l x m ∧ w'.ownsRow w.heap.size 3 1 v' m.length (cellsI m) ∧ Below w.heap.size w w' := by
  rcases h with ⟨rfl, rfl⟩ | ⟨b, off, c, rfl, h1, h2, h3⟩
  · exact refPut_nil x
  · exact refPut_some x hl h1 h2 h3

/-- Rising ones stay rising. -/
theorem InsAt.perm {l m : List Int} {x : Int} (h : InsAt l x m) : m.Perm (x :: l) := by
  obtain ⟨k, _, _, _, rfl⟩ := h
  have := List.perm_middle (a := x) (l₁ := l.take k) (l₂ := l.drop k)
  rwa [List.take_append_drop] at this
theorem InsAt.sorted {l m : List Int} {x : Int} (h : InsAt l x m) (hs : l.Pairwise (· ≤ ·)) : m.Pairwise (· ≤ ·) := by
  obtain ⟨k, hk, h1, h2, rfl⟩ := h
  have hsp := hs
  rw [← List.take_append_drop k l] at hsp
  obtain ⟨p1, p2, p3⟩ := List.pairwise_append.1 hsp
  have hd : ∀ y ∈ l.drop k, x ≤ y := fun y hy => by
    obtain ⟨i, hi, rfl⟩ := List.getElem_of_mem hy
    have hkl : k < l.length := by have : i < (l.drop k).length := hi; rw [List.length_drop] at this; omega
    have hx := h2 hkl
    rw [List.getElem_drop]
    have hil : k + i < l.length := by have : i < (l.drop k).length := hi; rw [List.length_drop] at this; omega
    rcases Nat.eq_zero_or_pos i with rfl | hp
    · simp only [Nat.add_zero]
      omega
    · have := List.pairwise_iff_getElem.1 hs k (k + i) hkl hil (by omega)
      omega
  have ht : ∀ y ∈ l.take k, y ≤ x := fun y hy => by
    obtain ⟨i, hi, rfl⟩ := List.getElem_of_mem hy
    rw [List.length_take] at hi
    rw [List.getElem_take]
    exact h1 i (by omega) (by omega)
  refine List.pairwise_append.2 ⟨p1, List.pairwise_cons.2 ⟨hd, p2⟩, fun y hy z hz => ?_⟩
  rcases List.mem_cons.1 hz with rfl | hz
  · exact ht y hy
  · exact p3 y hy z hz
end Go.Proofs.YtpoocbkligjgbaaGreatDoor
