/-
  Walks over package leaf: elsewhere, textSize, right. Walks over package leaf: Size. Walks over package leaf: read.
-/
import Derived.Test.YtpoocbkligjgbaaGreatDoorMg21
import Derived.Test.YtpoocbkligjgbaaGreatDoorMg7
import Derived.Deep.QuietTactic
import Derived.BigQuiet
import Derived.Deep.RegionHeld3
import Derived.StillTailTactics
import Derived.IntWalk
namespace Go.Proofs.YtpoocbkligjgbaaGreatDoor
open Go.RowKit Go.Lib

set_option maxRecDepth 100000 in
set_option maxHeartbeats 400000 in
theorem else_any (x : Itm) (w : World) : Calls Tryz.prog 196 #[iagg x] w fun e w' => e = .returned (.bool (x.over != 0)) ∧ Below w.heap.size w w' := by
  go_enter Tryz.func196, Tryz.ntmps196
  go_wp2
  go_ret
  exact ⟨rfl, (Below.refl _ _).alloc (Nat.le_refl _) _⟩

theorem var1_any (g : Nat) (n : Int) (w : World) (hi : IsInt n) (hc : w.cell? ⟨g, 0, none⟩ = some (.int .i64 n)) :
    Calls Tryz.prog 197 #[.slice (some ⟨g, 0, none⟩) 1 1] w fun e w' => e = .returned (.string ⟨(uvarint (zigzag n)).toArray⟩) ∧ Below w.heap.size w w' := by
  have hr : Reads1 w w.heap.size (.slice (some ⟨g, 0, none⟩) 1 1) ([n].map (Value.int .i64)) := by
    refine ⟨_, _, rfl, fun _ => ⟨g, 0, rfl, World.block_lt_of_cell? w _ hc, fun j u hu => ?_⟩⟩
    match j, hu with
    | 0, hu => simp at hu; subst hu; exact hc
    | j + 1, hu => simp at hu
  have h := var_any _ [n] w hr (by simp) (by intro x hx; simp at hx; subst hx; exact hi)
  have e1 : varsB [n] = uvarint (zigzag n) := by simp [varsB]
  rw [e1] at h
  exact h
theorem var2_any (g : Nat) (n m : Int) (w : World) (hi : IsInt n) (hj : IsInt m) (hc : w.cell? ⟨g, 0, none⟩ = some (.int .i64 n)) (hd : w.cell? ⟨g, 1, none⟩ = some (.int .i64 m)) :
    Calls Tryz.prog 197 #[.slice (some ⟨g, 0, none⟩) 2 2] w fun e w' => e = .returned (.string ⟨(varsB [n, m]).toArray⟩) ∧ Below w.heap.size w w' := by
  have hr : Reads1 w w.heap.size (.slice (some ⟨g, 0, none⟩) 2 2) ([n, m].map (Value.int .i64)) := by
    refine ⟨_, _, rfl, fun _ => ⟨g, 0, rfl, World.block_lt_of_cell? w _ hc, fun j u hu => ?_⟩⟩
    match j, hu with
    | 0, hu => simp at hu; subst hu; exact hc
    | 1, hu => simp at hu; subst hu; exact hd
    | j + 2, hu => simp at hu
  exact var_any _ [n, m] w hr (by simp) (by intro x hx; simp at hx; rcases hx with rfl | rfl <;> assumption)

set_option maxRecDepth 100000 in
set_option maxHeartbeats 400000 in
theorem tsize_any (s : ByteArray) (w : World) (hs : s.size ≤ 4611686018427387904) : Calls Tryz.prog 245 #[.string s] w fun e w' => e = .returned (.int .i64 ((textB s).length : Nat)) ∧ Below w.heap.size w w' := by
  have hv := fun g w => var1_any g (s.size : Int) w ⟨by omega, by omega⟩
  have hu := uvarint_length64 (zigzag_lt (x := (s.size : Int)) (by omega) (by omega))
  have hl : (textB s).length = (uvarint (zigzag (s.size : Int))).length + s.size := by
    have h2 : s.data.toList.length = s.size := by simp
    unfold textB
    rw [List.length_append, h2]
  generalize uvarint (zigzag (s.size : Int)) = U at *
  generalize (textB s).length = T at *
  have HV := Lib.hid hv
  have HL := Lib.hid hl
  clear hv hl
  go_enter Tryz.func245, Tryz.ntmps245
  go_wp2_with fail
  refine (HV.out _ _ ?_).mono ?_
  · go_simp
  rintro e w1 ⟨rfl, hb1⟩
  go_wp2
  go_ret
  exact ⟨ret_i64 (by have := HL.out; omega), ((Below.refl _ _).alloc (Nat.le_refl _) _).trans (hb1.mono (by simp))⟩

theorem key_big {x : Itm} (h : ¬ (1 ≤ x.key.size ∧ x.key.size ≤ 40)) : rightB x = false := by
  unfold rightB
  rw [decide_eq_false h, Bool.false_and]
/-- The box of an item, in a world where nothing that was there has turned. -/
theorem box_cells {w w1 : World} (x : Itm) (hb : Below (w.heap.size + 1) (w.alloc (iobj x)) w1) :
    w1.cell? ⟨w.heap.size, 0, none⟩ = some (.string x.key) ∧ w1.cell? ⟨w.heap.size, 1, none⟩ = some (.string x.val) ∧ w1.cell? ⟨w.heap.size, 2, none⟩ = some (.int .i64 x.over) ∧ w1.cell? ⟨w.heap.size, 3, none⟩ = some (.int .i64 x.size) := by
  have hm := (Has.made w 126 #[.string x.key, .string x.val, .int .i64 x.over, .int .i64 x.size]).below hb (by omega)
  exact ⟨hm.cell 0, hm.cell 1, hm.cell 2, hm.cell 3⟩
set_option maxRecDepth 100000 in
set_option maxHeartbeats 1000000 in
theorem lright_any (x : Itm) (w : World) : Calls Tryz.prog 244 #[iagg x] w fun e w' => e = .returned (.bool (rightB x)) ∧ Below w.heap.size w w' := by
  obtain ⟨k, v, o, s⟩ := x
  by_cases hk : 1 ≤ k.size ∧ k.size ≤ 40
  · obtain ⟨hk1, hk2⟩ := hk
    have HE := Lib.hid (fun w => else_any ⟨k, v, o, s⟩ w)
    have HB := Lib.hid (fun w1 => box_cells (w := w) (w1 := w1) ⟨k, v, o, s⟩)
    by_cases ho : o = 0
    · subst ho
      have hr : rightB ⟨k, v, 0, s⟩ = decide (s = 0 ∧ v.size ≤ 60) := by
        unfold rightB
        simp only [if_true]
        rw [decide_eq_true ⟨hk1, hk2⟩, Bool.true_and]
      rw [hr]
      by_cases hs : s = 0 ∧ v.size ≤ 60
      · rw [decide_eq_true hs]
        obtain ⟨rfl, hv⟩ := hs
        go_enter Tryz.func244, Tryz.ntmps244
        go_wp2_with fail
        refine (HE.out _).mono ?_
        rintro e w1 ⟨rfl, hb1⟩
        obtain ⟨c0, c1, c2, c3⟩ := HB.out w1 (by simpa using hb1)
        have H1 := Lib.hid hb1
        clear hb1
        go_wp2
        go_ret
        exact ⟨ret_bool (by simp; omega), ((Below.refl _ _).alloc (Nat.le_refl _) _).trans (H1.out.mono (by simp))⟩
      · rw [decide_eq_false hs]
        go_enter Tryz.func244, Tryz.ntmps244
        go_wp2_with fail
        refine (HE.out _).mono ?_
        rintro e w1 ⟨rfl, hb1⟩
        obtain ⟨c0, c1, c2, c3⟩ := HB.out w1 (by simpa using hb1)
        have H1 := Lib.hid hb1
        have HS := Lib.hid hs
        clear hb1 hs
        go_wp2
        all_goals
          go_ret
          refine ⟨?_, ((Below.refl _ _).alloc (Nat.le_refl _) _).trans (H1.out.mono (by simp))⟩
          have := HS.out
          first | rfl | (exact ret_bool (by simp; omega)) | (exfalso; omega)
    · have hr : rightB ⟨k, v, o, s⟩ = decide (0 < o ∧ o ≤ 4294967295 ∧ 60 < s ∧ s ≤ 2000 ∧ v = ⟨#[]⟩) := by
        unfold rightB
        simp only [if_neg ho]
        rw [decide_eq_true ⟨hk1, hk2⟩, Bool.true_and]
      rw [hr]
      have hne : (o != 0) = true := by simpa using ho
      by_cases hs : 0 < o ∧ o ≤ 4294967295 ∧ 60 < s ∧ s ≤ 2000 ∧ v = ⟨#[]⟩
      · rw [decide_eq_true hs]
        obtain ⟨ho1, ho2, hs1, hs2, rfl⟩ := hs
        have HNE := Lib.hid hne
        clear ho hne
        go_enter Tryz.func244, Tryz.ntmps244
        go_wp2_with fail
        refine (HE.out _).mono ?_
        rintro e w1 ⟨rfl, hb1⟩
        obtain ⟨c0, c1, c2, c3⟩ := HB.out w1 (by simpa using hb1)
        have H1 := Lib.hid hb1
        clear hb1
        simp only [HNE.out]
        go_wp2
        all_goals
          go_ret
          refine ⟨?_, ((Below.refl _ _).alloc (Nat.le_refl _) _).trans (H1.out.mono (by simp))⟩
          refine ret_bool ?_
          simp
      · rw [decide_eq_false hs]
        have HNE := Lib.hid hne
        have HS := Lib.hid hs
        clear ho hne hs
        go_enter Tryz.func244, Tryz.ntmps244
        go_wp2_with fail
        refine (HE.out _).mono ?_
        rintro e w1 ⟨rfl, hb1⟩
        obtain ⟨c0, c1, c2, c3⟩ := HB.out w1 (by simpa using hb1)
        have H1 := Lib.hid hb1
        clear hb1
        simp only [HNE.out]
        go_wp2
        all_goals
          go_ret
          refine ⟨?_, ((Below.refl _ _).alloc (Nat.le_refl _) _).trans (H1.out.mono (by simp))⟩
          refine ret_bool ?_
          have hs := HS.out
          first
            | (simp; done)
            | (simp; intro hv; exact hs ⟨by omega, by omega, by omega, by omega, toList_inj (hv.trans (by rw [Lib.toList_data]))⟩)
  · rw [key_big hk]
    by_cases h1 : 1 ≤ k.size
    · have h2 : 40 < k.size := by omega
      clear hk
      go_enter Tryz.func244, Tryz.ntmps244
      go_wp2_with fail
      go_ret
      exact ⟨rfl, (Below.refl _ _).alloc (Nat.le_refl _) _⟩
    · clear hk
      go_enter Tryz.func244, Tryz.ntmps244
      go_wp2_with fail
      go_ret
      exact ⟨rfl, (Below.refl _ _).alloc (Nat.le_refl _) _⟩

end Go.Proofs.YtpoocbkligjgbaaGreatDoor

namespace Go.Proofs.YtpoocbkligjgbaaGreatDoor
open Go.RowKit Go.Lib

/-- What is held of an item's box while nothing else turns. -/
theorem held_box {wr W0 : World} {x : Itm} (h : W0 = wr.alloc (iobj x)) : ∀ W, Below W0.heap.size W0 W → W.cell? ⟨wr.heap.size, 0, none⟩ = some (.string x.key) ∧ W.cell? ⟨wr.heap.size, 1, none⟩ = some (.string x.val) ∧ W.cell? ⟨wr.heap.size, 2, none⟩ = some (.int .i64 x.over) ∧ W.cell? ⟨wr.heap.size, 3, none⟩ = some (.int .i64 x.size) := by
  subst h
  intro W h
  exact box_cells x (by simpa using h)

/-- A truth's byte. -/
def boolS (b : Bool) : ByteArray := ⟨#[if b then 1 else 0]⟩
theorem boolS_size (b : Bool) : (boolS b).size = 1 := rfl
theorem boolS_any (b : Bool) (w : World) : Calls Tryz.prog 195 #[.bool b] w fun e w' => e = .returned (.string (boolS b)) ∧ w = w' := bool_any b w

theorem item_key (x : Itm) : (textB x.key).length + 1 ≤ (itemB x).length ∧ x.key.size + 1 ≤ (textB x.key).length := by
  have := textB_len x.key
  unfold itemB
  rw [List.length_append, List.length_cons]
  omega
theorem item_val {x : Itm} (h : x.over = 0) : (itemB x).length = (textB x.key).length + 1 + (textB x.val).length := by
  unfold itemB
  rw [if_pos h, if_pos h, List.length_append, List.length_cons]
  omega
theorem item_over {x : Itm} (h : x.over ≠ 0) : (itemB x).length = (textB x.key).length + 1 + (varsB [x.over, x.size]).length := by
  unfold itemB
  rw [if_neg h, if_neg h, List.length_append, List.length_cons]
  omega

set_option maxRecDepth 100000 in
set_option maxHeartbeats 1000000 in
theorem size_any (v : Value) (l : List Itm) (w : World) (hr : ReadsIt w w.heap.size v l) (hok : ∀ x ∈ l, x.ok) (hs : sz l ≤ 4611686018427387904) :
    Calls Tryz.prog 192 #[v] w fun e w' => e = .returned (.int .i64 (sz l : Nat)) ∧ Below w.heap.size w w' := by
  obtain ⟨A, c, rfl, hlc, hcm, _, hc⟩ := hr
  have hl63 : l.length ≤ 9223372036854775807 := by unfold maxLen at hcm; omega
  clear hlc hcm
  go_enter Tryz.func192, Tryz.ntmps192
  go_wp2
  go_loopw [3, 8] (fun n i wr => ∃ k : Nat, k ≤ l.length ∧ i = .int .i64 k ∧ n = .int .i64 (sz (l.take k) : Nat) ∧ Below w.heap.size w wr) (fun _ i _ => l.length - (RowKit.intOf i).toNat)
  case atStart => exact ⟨0, Nat.zero_le _, rfl, rfl, Below.refl _ _⟩
  case round =>
    obtain ⟨k, hk, rfl, rfl, hbl⟩ := hrel
    have hbs := hbl.size
    by_cases hlt : k < l.length
    · obtain ⟨b, off, rfl, hbb, hcell⟩ := hc (by omega)
      obtain ⟨c0, c1, c2, c3⟩ := (hcell.below hbl hbb) k hlt
      have hx := hok l[k] (by simp)
      have hts := (sz_take l (k + 1)).1
      rw [take_snoc1 l k hlt, sz_snoc] at hts
      have HS : Hid (sz (l.take (k + 1)) = sz (l.take k) + (itemB l[k]).length) := Lib.hid (by rw [take_snoc1 l k hlt, sz_snoc])
      generalize l[k] = x at *
      obtain ⟨hkl, hkl2⟩ := item_key x
      clear hc hcell
      go_wp2_with fail
      obtain ⟨W0, hW0⟩ : ∃ W0, W0 = wr.alloc (iobj x) := ⟨_, rfl⟩
      have hbx := held_box hW0
      have h0 : Below wr.heap.size wr W0 := by subst hW0; exact (Below.refl _ _).alloc (Nat.le_refl _) _
      have hb0 := Below.refl W0.heap.size W0
      obtain ⟨d0, d1, d2, d3⟩ := hbx W0 hb0
      rw [← hW0]
      have H1 := Lib.hid (fun W (h : Below W0.heap.size W0 W) => (tsize_any x.key W (by omega)).mono fun e w' ⟨h1, h2⟩ => (⟨h1, h.trans (h2.mono h.size), hbx w' (h.trans (h2.mono h.size))⟩ : e = _ ∧ Below W0.heap.size W0 w' ∧ _))
      have H2 := Lib.hid (fun W (h : Below W0.heap.size W0 W) => (else_any x W).mono fun e w' ⟨h1, h2⟩ => (⟨h1, h.trans (h2.mono h.size), hbx w' (h.trans (h2.mono h.size))⟩ : e = _ ∧ Below W0.heap.size W0 w' ∧ _))
      have HB := Lib.hid (And.intro hbx h0)
      have hbo := Nat.le_of_eq (boolS_size (x.over != 0))
      clear hW0 hbx h0
      go_region_held3 (fun w' => Below W0.heap.size W0 w' ∧ w'.cell? ⟨wr.heap.size, 0, none⟩ = some (.string x.key) ∧ w'.cell? ⟨wr.heap.size, 1, none⟩ = some (.string x.val) ∧ w'.cell? ⟨wr.heap.size, 2, none⟩ = some (.int .i64 x.over) ∧ w'.cell? ⟨wr.heap.size, 3, none⟩ = some (.int .i64 x.size)) (refine ⟨?_, ?_, ?_, ?_, ?_⟩ <;> first | assumption | (refine Below.drew ?_; assumption)) (first
        | (go_at_call 245; ((with_reducible refine (H1.out _ (by first | assumption | (refine Below.drew ?_; assumption))).mono ?_)); rintro e w1 ⟨rfl, hb1, f0, f1, f2, f3⟩)
        | (go_at_call 196; ((with_reducible refine (H2.out _ (by first | assumption | (refine Below.drew ?_; assumption))).mono ?_)); rintro e w2 ⟨rfl, hb2, g0, g1, g2, g3⟩)
        | (go_at_call 195; ((with_reducible refine (boolS_any _ _).mono ?_)); rintro e w3 ⟨rfl, rfl⟩))
      have e1 : IntKind.i64.wrap (↑(sz (List.take k l)) + IntKind.i64.wrap (↑(textB x.key).length + ↑(boolS (x.over != 0)).size)) = ((sz (l.take k) + ((textB x.key).length + 1) : Nat) : Int) := by
        rw [boolS_size, IntWalk.i64_in ((textB x.key).length + ((1 : Nat) : Int)) (by omega), IntWalk.i64_in _ (by omega)]
        omega
      rw [e1]
      have hH := HB.out.1
      clear e1 hb0 hb1 f0 f1 f2 f3 d0 d1 d2 d3 H1 hbo
      obtain ⟨M, hM⟩ : ∃ M, sz (l.take k) + ((textB x.key).length + 1) = M := ⟨_, rfl⟩
      rw [hM]
      by_cases ho : x.over = 0
      · have hiv := item_val ho
        have hb : (x.over != 0) = false := by simpa using ho
        have hvl := textB_len x.val
        have H3 := Lib.hid (fun W => tsize_any x.val W (by omega))
        have HS2 : Hid (sz (l.take (k + 1)) = M + (textB x.val).length) := Lib.hid (by rw [HS.out]; omega)
        have hMl : M + (textB x.val).length ≤ 4611686018427387904 := by omega
        have HH := Lib.hid hH
        rw [hb] at H2
        clear hM hiv HS hts hkl hH ho hb
        go_wp2_with fail
        refine (H2.out _ hb2).mono ?_
        rintro e w3 ⟨rfl, hb3, f0, f1, f2, f3⟩
        clear g0 g1 g2 g3
        go_wp2_with fail
        refine (H3.out _).mono ?_
        rintro e w4 ⟨rfl, hb4⟩
        go_wp2_with fail
        go_roundw
        case rel => exact ⟨k + 1, by omega, by go_num, by rw [HS2.out]; go_num, hbl.trans ((HB.out.2.trans (hb3.mono HB.out.2.size)).trans (hb4.mono (Nat.le_trans HB.out.2.size hb3.size)) |>.mono hbs)⟩
        case measure => simp [RowKit.intOf]; omega
      · have hiv := item_over ho
        have hb : (x.over != 0) = true := by simpa using ho
        have hvb := varsB_len [x.over, x.size] (by intro y hy; simp at hy; rcases hy with rfl | rfl; exact hx.2.2.1; exact hx.2.2.2)
        have H3 := Lib.hid (fun g W hc hd => var2_any g x.over x.size W hx.2.2.1 hx.2.2.2 hc hd)
        have HS2 : Hid (sz (l.take (k + 1)) = M + (varsB [x.over, x.size]).length) := Lib.hid (by rw [HS.out]; omega)
        have hMl : M + (varsB [x.over, x.size]).length ≤ 4611686018427387904 := by omega
        have HH := Lib.hid hH
        rw [hb] at H2
        clear hM hiv HS hts hkl hH ho hb
        generalize varsB [x.over, x.size] = Vb at *
        go_wp2_with fail
        refine (H2.out _ hb2).mono ?_
        rintro e w3 ⟨rfl, hb3, f0, f1, f2, f3⟩
        clear g0 g1 g2 g3
        go_wp2_with fail
        refine (H3.out _ _ ?_ ?_).mono ?_
        · go_simp
        · go_simp
        rintro e w4 ⟨rfl, hb4⟩
        go_wp2_with fail
        go_roundw
        case rel => exact ⟨k + 1, by omega, by go_num, by rw [HS2.out]; go_num, hbl.trans ((HB.out.2.trans (hb3.mono HB.out.2.size)).trans ((((Below.refl _ _).alloc (Nat.le_refl _) _).trans (hb4.mono (by simp))).mono (Nat.le_trans HB.out.2.size hb3.size)) |>.mono hbs)⟩
        case measure => simp [RowKit.intOf]; omega
    · obtain rfl : k = l.length := by omega
      rw [List.take_length]
      go_wp2
      go_ret
      exact ⟨rfl, hbl⟩
end Go.Proofs.YtpoocbkligjgbaaGreatDoor

namespace Go.Proofs.YtpoocbkligjgbaaGreatDoor
open Go.RowKit Go.Lib

theorem Rd.kept {F : List Nat} {w w' : World} {b : Nat} {l : List UInt8} {n : Int} (h : Rd w b l n) (k : Kept F w w') (hb : b ∉ F) : Rd w' b l n := by
  obtain ⟨s, h1, h2, h3⟩ := h
  exact ⟨s, h1, h2, h3.kept k hb⟩
theorem rtext_rest (most : Int) (l : List UInt8) : (rtext most l).2.1.length ≤ l.length := by
  have := rcount_rest most l
  unfold rtext
  split
  · exact this
  · split
    · exact this
    · simp only [List.length_drop]; omega
theorem rbool_rest (l : List UInt8) : (rbool l).2.1.length ≤ l.length := by
  unfold rbool
  split
  · simp
  · split <;> simp
theorem rtext_no {most : Int} {l : List UInt8} (h : (rtext most l).2.2 ≠ 0) : (rtext most l).1 = [] := by
  unfold rtext at h ⊢
  split
  · rfl
  · rename_i h1
    rw [if_neg h1] at h
    split
    · rfl
    · rename_i h2
      rw [if_neg h2] at h
      simp at h
theorem rbool_no {l : List UInt8} (h : (rbool l).2.2 ≠ 0) : (rbool l).1 = false := by
  unfold rbool at h ⊢
  split
  · rfl
  · rename_i c r
    simp only at h
    split at h
    · rename_i h2; rw [if_pos h2]
    · simp at h
theorem rvar_no {l : List UInt8} (h : (rvar l).2.2 ≠ 0) : (rvar l).1 = 0 := by
  unfold rvar at h ⊢
  split
  · rename_i h2
    rw [if_pos h2] at h
    simp at h
  · rfl

abbrev zeroI : Array Value := #[.string ⟨#[]⟩, .string ⟨#[]⟩, .int .i64 0, .int .i64 0]
theorem kept_first {w w1 : World} {b : Nat} {o : Obj} (h : (w.alloc o).grownBy w1 (some b)) : Kept [b] w w1 :=
  ((Kept.refl [b] w).alloc o).trans (Kept.of_grown h (fun k hk => by cases hk; simp))
def fin4 (W : World) (z : Nat) (x : Itm) : World := (((W.setCell ⟨z, 0, none⟩ (.string x.key)).setCell ⟨z, 1, none⟩ (.string x.val)).setCell ⟨z, 2, none⟩ (.int .i64 x.over)).setCell ⟨z, 3, none⟩ (.int .i64 x.size)
theorem fin4_is {w W : World} {b : Nat} {l : List UInt8} {n : Int} {z : Nat} {a0 a1 a2 a3 : Value} (hz : Has W z 126 #[a0, a1, a2, a3]) (hrd : Rd W b l n) (hk : Kept [b] w W) (hzb : b ≠ z) (hzw : w.heap.size ≤ z) (x : Itm) :
    Has (fin4 W z x) z 126 #[.string x.key, .string x.val, .int .i64 x.over, .int .i64 x.size] ∧ Rd (fin4 W z x) b l n ∧ Kept [b] w (fin4 W z x) := by
  have h1 := (((hz.put 0 (.string x.key)).put 1 (.string x.val)).put 2 (.int .i64 x.over)).put 3 (.int .i64 x.size)
  have hkz : Kept [z] W (fin4 W z x) := ((((Kept.refl [z] W).setCell (p := ⟨z, 0, none⟩) (.inl (by simp)) _).setCell (p := ⟨z, 1, none⟩) (.inl (by simp)) _).setCell (p := ⟨z, 2, none⟩) (.inl (by simp)) _).setCell (p := ⟨z, 3, none⟩) (.inl (by simp)) _
  refine ⟨by simpa [fin4] using h1, hrd.kept hkz (by simpa using hzb), ?_⟩
  exact (((hk.setCell (p := ⟨z, 0, none⟩) (.inr hzw) _).setCell (p := ⟨z, 1, none⟩) (.inr hzw) _).setCell (p := ⟨z, 2, none⟩) (.inr hzw) _).setCell (p := ⟨z, 3, none⟩) (.inr hzw) _
theorem past_fin {w W : World} {b z g i : Nat} {l : List UInt8} {n : Int} {a : Array Value} (hz : Has W z 126 a) (hrd : Rd W b l n) (hk : Kept [b] w W) (hgz : z ≠ g) (hgb : b ≠ g) (hgw : w.heap.size ≤ g) (u : Value) :
    Has (W.setCell ⟨g, i, none⟩ u) z 126 a ∧ Rd (W.setCell ⟨g, i, none⟩ u) b l n ∧ Kept [b] w (W.setCell ⟨g, i, none⟩ u) :=
  ⟨hz.past (by exact hgz) u, hrd.kept ((Kept.refl [g] W).setCell (p := ⟨g, i, none⟩) (.inl (by simp)) u) (by simpa using hgb), hk.setCell (p := ⟨g, i, none⟩) (.inr hgw) u⟩
/-- What read comes to. -/
def ReadTo8 (w : World) (b : Nat) (r : Itm × List UInt8 × Int) (e : Ending) (w' : World) : Prop := e = .returned (iagg r.1) ∧ Rd w' b r.2.1 r.2.2 ∧ Kept [b] w w'

set_option maxRecDepth 100000 in
set_option maxHeartbeats 1000000 in
theorem lread_any (b : Nat) (bs : List UInt8) (w : World) (h : Rd w b bs 0) (hlen : bs.length ≤ 281474976710656) :
    Calls Tryz.prog 269 #[.pointer (some ⟨b, 0, none⟩)] w (ReadTo8 w b (getItem bs)) := by
  have hin := h.inside
  have hra := fun W hW => rtext_any b bs 40 W hW hlen
  have hrest := rtext_rest 40 bs
  have hno := rtext_no (most := 40) (l := bs)
  obtain ⟨k, l1, n1, hk⟩ : ∃ k l1 n1, rtext 40 bs = (k, l1, n1) := ⟨_, _, _, rfl⟩
  have hgi : getItem bs = if n1 ≠ 0 then (⟨⟨#[]⟩, ⟨#[]⟩, 0, 0⟩, l1, n1) else getItem bs := by
    split
    · rename_i hn
      unfold getItem
      rw [hk]
      simp only [if_pos hn]
    · rfl
  rw [hk] at hra hrest hno
  simp only at hra hrest hno
  have h0 : Rd (w.alloc (.cells #[.string ⟨#[]⟩, .string ⟨#[]⟩, .int .i64 0, .int .i64 0] 126)) b bs 0 := h.below ((Below.refl w.heap.size w).alloc (Nat.le_refl _) _) hin
  by_cases hn : n1 = 0
  · obtain rfl : n1 = 0 := hn
    clear hgi hno
    have hbr := rbool_rest l1
    have hbn := rbool_no (l := l1)
    have hba := fun W hW => rbool_any b l1 W hW
    obtain ⟨e2, l2, n2, hbk⟩ : ∃ e l2 n2, rbool l1 = (e, l2, n2) := ⟨_, _, _, rfl⟩
    rw [hbk] at hbr hbn hba
    simp only at hbr hbn hba
    have HR := Lib.hid (hra _ h0)
    clear hra
    by_cases hn2 : n2 = 0
    · obtain rfl : n2 = 0 := hn2
      have hl2 : l2.length ≤ 281474976710656 := by omega
      cases e2
      · have hta := fun W hW => rtext_any b l2 60 W hW hl2
        obtain ⟨v, l3, n3, ht3⟩ : ∃ v l3 n3, rtext 60 l2 = (v, l3, n3) := ⟨_, _, _, rfl⟩
        rw [ht3] at hta
        simp only at hta
        have e1 : getItem bs = (⟨⟨k.toArray⟩, ⟨v.toArray⟩, 0, 0⟩, l3, n3) := by
          unfold getItem
          rw [hk]
          simp only [ne_eq, not_true, if_false]
          rw [hbk]
          simp only [not_true, if_false, Bool.false_eq_true, ht3]
        rw [e1]
        generalize (⟨k.toArray⟩ : ByteArray) = kS at *
        generalize (⟨v.toArray⟩ : ByteArray) = vS at *
        have HB := Lib.hid hba
        have HT := Lib.hid hta
        clear hba hbn hbk hk e1 hta ht3
        go_enter Tryz.func269, Tryz.ntmps269
        go_wp2_with fail
        refine HR.out.mono ?_
        rintro e w1 ⟨rfl, hrd1, hg1⟩
        have hz : Has w1 w.heap.size 126 zeroI := (Has.made w 126 zeroI).grown hg1 (fun e => by cases e; omega)
        have hs1 : w.heap.size < w1.heap.size := hz.inside
        have k0 := kept_first hg1
        have hrd2 : Rd (w1.alloc (.cells #[.string kS, .string ⟨#[]⟩, .int .i64 0, .int .i64 0] 126)) b l1 0 := hrd1.below ((Below.refl w1.heap.size w1).alloc (Nat.le_refl _) _) (by omega)
        have hE1 := HB.out _ hrd2
        have HH := Lib.hid (And.intro k0 hz)
        clear hz hrd2 hrd1 hg1 k0 HR HB
        go_wp2_with fail
        refine hE1.mono ?_
        rintro e w2 ⟨rfl, hrd3, hg2⟩
        have hz2 : Has w2 w.heap.size 126 zeroI := (HH.out.2.alloc _).grown hg2 (fun e => by cases e; omega)
        have hy2 : Has w2 w1.heap.size 126 #[.string kS, .string ⟨#[]⟩, .int .i64 0, .int .i64 0] := (Has.made w1 126 _).grown hg2 (fun e => by cases e; omega)
        have k2 : Kept [b] w w2 := (HH.out.1.alloc _).trans (Kept.of_grown hg2 (fun k hk => by cases hk; simp))
        clear hE1 hg2 HH
        have hE2 := HT.out _ hrd3
        clear hrd3 HT
        go_wp2_with fail
        refine hE2.mono ?_
        rintro e w3 ⟨rfl, hrd4, hg3⟩
        have hz3 : Has w3 w.heap.size 126 zeroI := hz2.grown hg3 (fun e => by cases e; omega)
        have hy3 : Has w3 w1.heap.size 126 #[.string kS, .string ⟨#[]⟩, .int .i64 0, .int .i64 0] := hy2.grown hg3 (fun e => by cases e; omega)
        have k3 : Kept [b] w w3 := k2.trans (Kept.of_grown hg3 (fun k hk => by cases hk; simp))
        clear hE2 hg3 hz2 hy2 k2
        have z0 := hz3.cell 0
        have z1 := hz3.cell 1
        have z2 := hz3.cell 2
        have z3 := hz3.cell 3
        have y0 := hz3.free 0
        have y1 := hz3.free 1
        have y2 := hz3.free 2
        have y3 := hz3.free 3
        have x0 := hy3.cell 0
        have x1 := hy3.cell 1
        have x2 := hy3.cell 2
        have x3 := hy3.cell 3
        have v1 := hy3.free 1
        have v2 := hy3.free 2
        have v3 := hy3.free 3
        simp [zeroI] at z0 z1 z2 z3 x0 x1 x2 x3
        have HH := Lib.hid (And.intro hrd4 (And.intro k3 (And.intro hz3 hy3)))
        clear hrd4 k3 hz3 hy3
        go_wp2_with fail
        obtain ⟨h1, h2, h3, h4⟩ := HH.out
        obtain ⟨p1, p2, p3⟩ := past_fin (w := w) (g := w1.heap.size) (i := 1) h3 h1 h2 (by omega) (by omega) (by omega) (.string vS)
        have hfin := fin4_is (w := w) p1 p2 p3 (by omega) (Nat.le_refl _) ⟨kS, vS, 0, 0⟩
        change bodyPost Tryz.prog Tryz.f269 _ Exit.ret _ (fin4 (w3.setCell ⟨w1.heap.size, 1, none⟩ (.string vS)) w.heap.size ⟨kS, vS, 0, 0⟩)
        obtain ⟨f1, f2, f3⟩ := hfin
        generalize fin4 (w3.setCell ⟨w1.heap.size, 1, none⟩ (.string vS)) w.heap.size ⟨kS, vS, 0, 0⟩ = W4 at *
        have d0 := f1.cell 0
        have d1 := f1.cell 1
        have d2 := f1.cell 2
        have d3 := f1.cell 3
        simp at d0 d1 d2 d3
        exact bodyPost_ret (v := iagg ⟨kS, vS, 0, 0⟩) (by simp [results, Tryz.results269, go_sem, d0, d1, d2, d3]; try rfl) rfl ⟨rfl, f2, f3⟩
      · have hva := fun W hW => rvar_any b l2 W hW
        have hvn := rvar_no (l := l2)
        obtain ⟨o, l3, n3, hv3⟩ : ∃ o l3 n3, rvar l2 = (o, l3, n3) := ⟨_, _, _, rfl⟩
        rw [hv3] at hva hvn
        simp only at hva hvn
        by_cases hn3 : n3 = 0
        · obtain rfl : n3 = 0 := hn3
          have hvb := fun W hW => rvar_any b l3 W hW
          obtain ⟨s, l4, n4, hv4⟩ : ∃ s l4 n4, rvar l3 = (s, l4, n4) := ⟨_, _, _, rfl⟩
          rw [hv4] at hvb
          simp only at hvb
          have e1 : getItem bs = (⟨⟨k.toArray⟩, ⟨#[]⟩, o, s⟩, l4, n4) := by
            unfold getItem
            rw [hk]
            simp only [ne_eq, not_true, if_false]
            rw [hbk]
            simp only [not_true, if_false, if_true, hv3, hv4]
          have HVB := Lib.hid hvb
          clear hvb hvn hv4
          rw [e1]
          generalize (⟨k.toArray⟩ : ByteArray) = kS at *
          have HB := Lib.hid hba
          have HV := Lib.hid hva
          clear hba hbn hbk hk e1 hva hv3
          go_enter Tryz.func269, Tryz.ntmps269
          go_wp2_with fail
          refine HR.out.mono ?_
          rintro e w1 ⟨rfl, hrd1, hg1⟩
          have hz : Has w1 w.heap.size 126 zeroI := (Has.made w 126 zeroI).grown hg1 (fun e => by cases e; omega)
          have hs1 : w.heap.size < w1.heap.size := hz.inside
          have k0 := kept_first hg1
          have hrd2 : Rd (w1.alloc (.cells #[.string kS, .string ⟨#[]⟩, .int .i64 0, .int .i64 0] 126)) b l1 0 := hrd1.below ((Below.refl w1.heap.size w1).alloc (Nat.le_refl _) _) (by omega)
          have hE1 := HB.out _ hrd2
          have HH := Lib.hid (And.intro k0 hz)
          clear hz hrd2 hrd1 hg1 k0 HR HB
          go_wp2_with fail
          refine hE1.mono ?_
          rintro e w2 ⟨rfl, hrd3, hg2⟩
          have hz2 : Has w2 w.heap.size 126 zeroI := (HH.out.2.alloc _).grown hg2 (fun e => by cases e; omega)
          have hy2 : Has w2 w1.heap.size 126 #[.string kS, .string ⟨#[]⟩, .int .i64 0, .int .i64 0] := (Has.made w1 126 _).grown hg2 (fun e => by cases e; omega)
          have k2 : Kept [b] w w2 := (HH.out.1.alloc _).trans (Kept.of_grown hg2 (fun k hk => by cases hk; simp))
          clear hE1 hg2 HH
          have hE2 := HV.out _ hrd3
          clear hrd3 HV
          go_wp2_with fail
          refine hE2.mono ?_
          rintro e w3 ⟨rfl, hrd4, hg3⟩
          have hz3 : Has w3 w.heap.size 126 zeroI := hz2.grown hg3 (fun e => by cases e; omega)
          have hy3 : Has w3 w1.heap.size 126 #[.string kS, .string ⟨#[]⟩, .int .i64 0, .int .i64 0] := hy2.grown hg3 (fun e => by cases e; omega)
          have k3 : Kept [b] w w3 := k2.trans (Kept.of_grown hg3 (fun k hk => by cases hk; simp))
          clear hE2 hg3 hz2 hy2 k2
          have hE3 := HVB.out _ hrd4
          clear hrd4 HVB
          go_wp2_with fail
          refine hE3.mono ?_
          rintro e w4 ⟨rfl, hrd5, hg4⟩
          have hz4 : Has w4 w.heap.size 126 zeroI := hz3.grown hg4 (fun e => by cases e; omega)
          have hy4 : Has w4 w1.heap.size 126 #[.string kS, .string ⟨#[]⟩, .int .i64 0, .int .i64 0] := hy3.grown hg4 (fun e => by cases e; omega)
          have k4 : Kept [b] w w4 := k3.trans (Kept.of_grown hg4 (fun k hk => by cases hk; simp))
          clear hE3 hg4 hz3 hy3 k3
          have z0 := hz4.cell 0
          have z1 := hz4.cell 1
          have z2 := hz4.cell 2
          have z3 := hz4.cell 3
          have y0 := hz4.free 0
          have y1 := hz4.free 1
          have y2 := hz4.free 2
          have y3 := hz4.free 3
          have x0 := hy4.cell 0
          have x1 := hy4.cell 1
          have x2 := hy4.cell 2
          have x3 := hy4.cell 3
          have v1 := hy4.free 1
          have v2 := hy4.free 2
          have v3 := hy4.free 3
          simp [zeroI] at z0 z1 z2 z3 x0 x1 x2 x3
          have HH := Lib.hid (And.intro hrd5 (And.intro k4 (And.intro hz4 hy4)))
          clear hrd5 k4 hz4 hy4
          go_wp2_with fail
          obtain ⟨h1, h2, h3, h4⟩ := HH.out
          obtain ⟨s1, s2, s3⟩ := past_fin (w := w) (g := w1.heap.size) (i := 2) h3 h1 h2 (by omega) (by omega) (by omega) (.int .i64 o)
          obtain ⟨p1, p2, p3⟩ := past_fin (w := w) (g := w1.heap.size) (i := 3) s1 s2 s3 (by omega) (by omega) (by omega) (.int .i64 s)
          have hfin := fin4_is (w := w) p1 p2 p3 (by omega) (Nat.le_refl _) ⟨kS, ⟨#[]⟩, o, s⟩
          change bodyPost Tryz.prog Tryz.f269 _ Exit.ret _ (fin4 ((w4.setCell ⟨w1.heap.size, 2, none⟩ (.int .i64 o)).setCell ⟨w1.heap.size, 3, none⟩ (.int .i64 s)) w.heap.size ⟨kS, ⟨#[]⟩, o, s⟩)
          obtain ⟨f1, f2, f3⟩ := hfin
          generalize fin4 ((w4.setCell ⟨w1.heap.size, 2, none⟩ (.int .i64 o)).setCell ⟨w1.heap.size, 3, none⟩ (.int .i64 s)) w.heap.size ⟨kS, ⟨#[]⟩, o, s⟩ = W4 at *
          have d0 := f1.cell 0
          have d1 := f1.cell 1
          have d2 := f1.cell 2
          have d3 := f1.cell 3
          simp at d0 d1 d2 d3
          exact bodyPost_ret (v := iagg ⟨kS, ⟨#[]⟩, o, s⟩) (by simp [results, Tryz.results269, go_sem, d0, d1, d2, d3]; try rfl) rfl ⟨rfl, f2, f3⟩
        · have ho := hvn hn3
          subst ho
          have e1 : getItem bs = (⟨⟨k.toArray⟩, ⟨#[]⟩, 0, 0⟩, l3, n3) := by
            unfold getItem
            rw [hk]
            simp only [ne_eq, not_true, if_false]
            rw [hbk]
            simp only [not_true, if_false, if_true, hv3, hn3, not_false_eq_true]
          clear hvn
          rw [e1]
          generalize (⟨k.toArray⟩ : ByteArray) = kS at *
          have HB := Lib.hid hba
          have HV := Lib.hid hva
          clear hba hbn hbk hk e1 hva hv3
          go_enter Tryz.func269, Tryz.ntmps269
          go_wp2_with fail
          refine HR.out.mono ?_
          rintro e w1 ⟨rfl, hrd1, hg1⟩
          have hz : Has w1 w.heap.size 126 zeroI := (Has.made w 126 zeroI).grown hg1 (fun e => by cases e; omega)
          have hs1 : w.heap.size < w1.heap.size := hz.inside
          have k0 := kept_first hg1
          have hrd2 : Rd (w1.alloc (.cells #[.string kS, .string ⟨#[]⟩, .int .i64 0, .int .i64 0] 126)) b l1 0 := hrd1.below ((Below.refl w1.heap.size w1).alloc (Nat.le_refl _) _) (by omega)
          have hE1 := HB.out _ hrd2
          have HH := Lib.hid (And.intro k0 hz)
          clear hz hrd2 hrd1 hg1 k0 HR HB
          go_wp2_with fail
          refine hE1.mono ?_
          rintro e w2 ⟨rfl, hrd3, hg2⟩
          have hz2 : Has w2 w.heap.size 126 zeroI := (HH.out.2.alloc _).grown hg2 (fun e => by cases e; omega)
          have hy2 : Has w2 w1.heap.size 126 #[.string kS, .string ⟨#[]⟩, .int .i64 0, .int .i64 0] := (Has.made w1 126 _).grown hg2 (fun e => by cases e; omega)
          have k2 : Kept [b] w w2 := (HH.out.1.alloc _).trans (Kept.of_grown hg2 (fun k hk => by cases hk; simp))
          clear hE1 hg2 HH
          have hE2 := HV.out _ hrd3
          clear hrd3 HV
          go_wp2_with fail
          refine hE2.mono ?_
          rintro e w3 ⟨rfl, hrd4, hg3⟩
          have hz3 : Has w3 w.heap.size 126 zeroI := hz2.grown hg3 (fun e => by cases e; omega)
          have hy3 : Has w3 w1.heap.size 126 #[.string kS, .string ⟨#[]⟩, .int .i64 0, .int .i64 0] := hy2.grown hg3 (fun e => by cases e; omega)
          have k3 : Kept [b] w w3 := k2.trans (Kept.of_grown hg3 (fun k hk => by cases hk; simp))
          clear hE2 hg3 hz2 hy2 k2
          have hE3 := rvar_err b l3 n3 _ hrd4 hn3
          go_wp2_with fail
          refine hE3.mono ?_
          rintro e w4 ⟨rfl, rfl⟩
          have z0 := hz3.cell 0
          have z1 := hz3.cell 1
          have z2 := hz3.cell 2
          have z3 := hz3.cell 3
          have y0 := hz3.free 0
          have y1 := hz3.free 1
          have y2 := hz3.free 2
          have y3 := hz3.free 3
          have x0 := hy3.cell 0
          have x1 := hy3.cell 1
          have x2 := hy3.cell 2
          have x3 := hy3.cell 3
          have v1 := hy3.free 1
          have v2 := hy3.free 2
          have v3 := hy3.free 3
          simp [zeroI] at z0 z1 z2 z3 x0 x1 x2 x3
          have HH := Lib.hid (And.intro hrd4 (And.intro k3 (And.intro hz3 hy3)))
          clear hrd4 k3 hz3 hy3
          go_wp2_with fail
          obtain ⟨h1, h2, h3, h4⟩ := HH.out
          obtain ⟨s1, s2, s3⟩ := past_fin (w := w) (g := w1.heap.size) (i := 2) h3 h1 h2 (by omega) (by omega) (by omega) (.int .i64 0)
          obtain ⟨p1, p2, p3⟩ := past_fin (w := w) (g := w1.heap.size) (i := 3) s1 s2 s3 (by omega) (by omega) (by omega) (.int .i64 0)
          have hfin := fin4_is (w := w) p1 p2 p3 (by omega) (Nat.le_refl _) ⟨kS, ⟨#[]⟩, 0, 0⟩
          change bodyPost Tryz.prog Tryz.f269 _ Exit.ret _ (fin4 ((w3.setCell ⟨w1.heap.size, 2, none⟩ (.int .i64 0)).setCell ⟨w1.heap.size, 3, none⟩ (.int .i64 0)) w.heap.size ⟨kS, ⟨#[]⟩, 0, 0⟩)
          obtain ⟨f1, f2, f3⟩ := hfin
          generalize fin4 ((w3.setCell ⟨w1.heap.size, 2, none⟩ (.int .i64 0)).setCell ⟨w1.heap.size, 3, none⟩ (.int .i64 0)) w.heap.size ⟨kS, ⟨#[]⟩, 0, 0⟩ = W4 at *
          have d0 := f1.cell 0
          have d1 := f1.cell 1
          have d2 := f1.cell 2
          have d3 := f1.cell 3
          simp at d0 d1 d2 d3
          exact bodyPost_ret (v := iagg ⟨kS, ⟨#[]⟩, 0, 0⟩) (by simp [results, Tryz.results269, go_sem, d0, d1, d2, d3]; try rfl) rfl ⟨rfl, f2, f3⟩
    · have he := hbn hn2
      subst he
      have e1 : getItem bs = (⟨⟨k.toArray⟩, ⟨#[]⟩, 0, 0⟩, l2, n2) := by
        unfold getItem
        rw [hk]
        simp only [ne_eq, not_true, if_false]
        rw [hbk]
        simp only [ne_eq, hn2, not_false_eq_true, if_true]
      rw [e1]
      generalize (⟨k.toArray⟩ : ByteArray) = kS at *
      have HB := Lib.hid hba
      clear hba hbn hbk hk e1
      go_enter Tryz.func269, Tryz.ntmps269
      go_wp2_with fail
      refine HR.out.mono ?_
      rintro e w1 ⟨rfl, hrd1, hg1⟩
      have hz : Has w1 w.heap.size 126 zeroI := (Has.made w 126 zeroI).grown hg1 (fun e => by cases e; omega)
      have hs1 : w.heap.size < w1.heap.size := hz.inside
      have k0 := kept_first hg1
      have hrd2 : Rd (w1.alloc (.cells #[.string kS, .string ⟨#[]⟩, .int .i64 0, .int .i64 0] 126)) b l1 0 := hrd1.below ((Below.refl w1.heap.size w1).alloc (Nat.le_refl _) _) (by omega)
      have hE1 := HB.out _ hrd2
      have HH := Lib.hid (And.intro k0 hz)
      clear hz hrd2 hrd1 hg1 k0 HR HB
      go_wp2_with fail
      refine hE1.mono ?_
      rintro e w2 ⟨rfl, hrd3, hg2⟩
      have hz2 : Has w2 w.heap.size 126 zeroI := (HH.out.2.alloc _).grown hg2 (fun e => by cases e; omega)
      have hy2 : Has w2 w1.heap.size 126 #[.string kS, .string ⟨#[]⟩, .int .i64 0, .int .i64 0] := (Has.made w1 126 _).grown hg2 (fun e => by cases e; omega)
      have k2 : Kept [b] w w2 := (HH.out.1.alloc _).trans (Kept.of_grown hg2 (fun k hk => by cases hk; simp))
      clear hE1 hg2 HH
      have hE2 := rtext_err b l2 n2 60 _ hrd3 hn2
      have z0 := hz2.cell 0
      have z1 := hz2.cell 1
      have z2 := hz2.cell 2
      have z3 := hz2.cell 3
      have y0 := hz2.free 0
      have y1 := hz2.free 1
      have y2 := hz2.free 2
      have y3 := hz2.free 3
      have x0 := hy2.cell 0
      have x1 := hy2.cell 1
      have x2 := hy2.cell 2
      have x3 := hy2.cell 3
      have v1 := hy2.free 1
      have v2 := hy2.free 2
      have v3 := hy2.free 3
      simp [zeroI] at z0 z1 z2 z3 x0 x1 x2 x3
      have HH := Lib.hid (And.intro hrd3 (And.intro k2 (And.intro hz2 hy2)))
      clear hrd3 k2 hz2 hy2
      go_wp2_with fail
      refine hE2.mono ?_
      rintro e w3 ⟨rfl, rfl⟩
      go_wp2_with fail
      obtain ⟨h1, h2, h3, h4⟩ := HH.out
      obtain ⟨p1, p2, p3⟩ := past_fin (w := w) (g := w1.heap.size) (i := 1) h3 h1 h2 (by omega) (by omega) (by omega) (.string ByteArray.empty)
      have hfin := fin4_is (w := w) p1 p2 p3 (by omega) (Nat.le_refl _) ⟨kS, ByteArray.empty, 0, 0⟩
      change bodyPost Tryz.prog Tryz.f269 _ Exit.ret _ (fin4 (w2.setCell ⟨w1.heap.size, 1, none⟩ (.string ByteArray.empty)) w.heap.size ⟨kS, ByteArray.empty, 0, 0⟩)
      obtain ⟨f1, f2, f3⟩ := hfin
      generalize fin4 (w2.setCell ⟨w1.heap.size, 1, none⟩ (.string ByteArray.empty)) w.heap.size ⟨kS, ByteArray.empty, 0, 0⟩ = W4 at *
      have d0 := f1.cell 0
      have d1 := f1.cell 1
      have d2 := f1.cell 2
      have d3 := f1.cell 3
      simp at d0 d1 d2 d3
      exact bodyPost_ret (v := iagg ⟨kS, ⟨#[]⟩, 0, 0⟩) (by simp [results, Tryz.results269, go_sem, d0, d1, d2, d3]; try rfl) rfl ⟨rfl, f2, f3⟩
  · rw [if_pos hn] at hgi
    rw [hgi]
    have hk0 := hno hn
    subst hk0
    have HR := Lib.hid (hra _ h0)
    clear hra hno hgi hk
    go_enter Tryz.func269, Tryz.ntmps269
    go_wp2_with fail
    refine HR.out.mono ?_
    rintro e w1 ⟨rfl, hrd1, hg1⟩
    have hz : Has w1 w.heap.size 126 zeroI := (Has.made w 126 zeroI).grown hg1 (fun e => by cases e; omega)
    have hs1 : w.heap.size < w1.heap.size := hz.inside
    have hrd2 : Rd (w1.alloc (.cells zeroI 126)) b l1 n1 := hrd1.below ((Below.refl w1.heap.size w1).alloc (Nat.le_refl _) _) (by omega)
    have hE1 := rbool_err b l1 n1 _ hrd2 hn
    have hE2 := rtext_err b l1 n1 60 _ hrd2 hn
    have k0 := kept_first hg1
    have z0 := hz.cell 0
    have z1 := hz.cell 1
    have z2 := hz.cell 2
    have z3 := hz.cell 3
    have y0 := hz.free 0
    have y1 := hz.free 1
    have y2 := hz.free 2
    have y3 := hz.free 3
    simp [zeroI] at z0 z1 z2 z3
    have HH := Lib.hid (And.intro hrd1 (And.intro k0 hz))
    clear hz hrd2 hrd1 hg1 k0 HR
    go_wp2_with fail
    refine hE1.mono ?_
    rintro e w2 ⟨rfl, rfl⟩
    go_wp2_with fail
    refine hE2.mono ?_
    rintro e w2 ⟨rfl, rfl⟩
    go_wp2_with fail
    have hfin := fin4_is (w := w) HH.out.2.2 HH.out.1 HH.out.2.1 (by omega) (Nat.le_refl _) ⟨⟨#[]⟩, ByteArray.empty, 0, 0⟩
    unfold fin4 at hfin
    simp only at hfin
    generalize hW4 : ((((w1.setCell { block := w.heap.size, off := 0 } (Value.string { data := #[] })).setCell { block := w.heap.size, off := 1 } (Value.string ByteArray.empty)).setCell { block := w.heap.size, off := 2 } (Value.int IntKind.i64 0)).setCell { block := w.heap.size, off := 3 } (Value.int IntKind.i64 0)) = W4 at *
    obtain ⟨f1, f2, f3⟩ := hfin
    have d0 := f1.cell 0
    have d1 := f1.cell 1
    have d2 := f1.cell 2
    have d3 := f1.cell 3
    simp at d0 d1 d2 d3
    have hs4 := f1.inside
    refine bodyPost_ret (v := iagg ⟨⟨#[]⟩, ⟨#[]⟩, 0, 0⟩) (by simp [results, Tryz.results269, go_sem, d0, d1, d2, d3, hs4]; rfl) rfl ⟨rfl, f2.below ((Below.refl _ _).alloc (Nat.le_refl _) _) f2.inside, f3.alloc _⟩
end Go.Proofs.YtpoocbkligjgbaaGreatDoor
