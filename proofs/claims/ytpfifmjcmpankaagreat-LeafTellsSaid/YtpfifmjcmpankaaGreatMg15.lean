/-
  Walks over package leaf: elsewhere, textSize, right. Walks over package leaf: Size.
-/
import Derived.Test.YtpfifmjcmpankaaGreatMg4
import Derived.Test.YtpfifmjcmpankaaGreatMg14
import Derived.Test.YtpfifmjcmpankaaGreatMg7
import Derived.Deep.QuietTactic
import Derived.BigQuiet
import Derived.Deep.RegionHeld3
import Derived.StillTailTactics
import Derived.IntWalk
namespace Go.Proofs.YtpfifmjcmpankaaGreat
open Go.RowKit Go.Lib

set_option maxRecDepth 100000 in
set_option maxHeartbeats 400000 in
theorem else_any (x : Itm) (w : World) : Calls Tryz.prog 53 #[iagg x] w fun e w' => e = .returned (.bool (x.over != 0)) ∧ Below w.heap.size w w' := by
  go_enter Tryz.func53, Tryz.ntmps53
  go_wp2
  go_ret
  exact ⟨rfl, (Below.refl _ _).alloc (Nat.le_refl _) _⟩

theorem var1_any (g : Nat) (n : Int) (w : World) (hi : IsInt n) (hc : w.cell? ⟨g, 0, none⟩ = some (.int .i64 n)) :
    Calls Tryz.prog 54 #[.slice (some ⟨g, 0, none⟩) 1 1] w fun e w' => e = .returned (.string ⟨(uvarint (zigzag n)).toArray⟩) ∧ Below w.heap.size w w' := by
  have hr : Reads1 w w.heap.size (.slice (some ⟨g, 0, none⟩) 1 1) ([n].map (Value.int .i64)) := by
    refine ⟨_, _, rfl, fun _ => ⟨g, 0, rfl, World.block_lt_of_cell? w _ hc, fun j u hu => ?_⟩⟩
    match j, hu with
    | 0, hu => simp at hu; subst hu; exact hc
    | j + 1, hu => simp at hu
  have h := var_any _ [n] w hr (by simp) (by intro x hx; simp at hx; subst hx; exact hi)
  have e1 : varsB [n] = uvarint (zigzag n) := by simp [varsB]
  rw [e1] at h
  exact h
theorem var2_any (g : Nat) (n m : Int) (w : World) (hi : IsInt n) (hj : IsInt m) (hc : w.cell? ⟨g, 0, none⟩ = some (.int .i64 n)) (hd : w.cell? ⟨g, 1, none⟩ = some (.int .i64 m)) :
    Calls Tryz.prog 54 #[.slice (some ⟨g, 0, none⟩) 2 2] w fun e w' => e = .returned (.string ⟨(varsB [n, m]).toArray⟩) ∧ Below w.heap.size w w' := by
  have hr : Reads1 w w.heap.size (.slice (some ⟨g, 0, none⟩) 2 2) ([n, m].map (Value.int .i64)) := by
    refine ⟨_, _, rfl, fun _ => ⟨g, 0, rfl, World.block_lt_of_cell? w _ hc, fun j u hu => ?_⟩⟩
    match j, hu with
    | 0, hu => simp at hu; subst hu; exact hc
    | 1, hu => simp at hu; subst hu; exact hd
    | j + 2, hu => simp at hu
  exact var_any _ [n, m] w hr (by simp) (by intro x hx; simp at hx; rcases hx with rfl | rfl <;> assumption)

set_option maxRecDepth 100000 in
set_option maxHeartbeats 400000 in
theorem tsize_any (s : ByteArray) (w : World) (hs : s.size ≤ 4611686018427387904) : Calls Tryz.prog 66 #[.string s] w fun e w' => e = .returned (.int .i64 ((textB s).length : Nat)) ∧ Below w.heap.size w w' := by
  have hv := fun g w => var1_any g (s.size : Int) w ⟨by omega, by omega⟩
  have hu := uvarint_length64 (zigzag_lt (x := (s.size : Int)) (by omega) (by omega))
  have hl : (textB s).length = (uvarint (zigzag (s.size : Int))).length + s.size := by
    have h2 : s.data.toList.length = s.size := by simp
    unfold textB
    rw [List.length_append, h2]
  generalize uvarint (zigzag (s.size : Int)) = U at *
  generalize (textB s).length = T at *
  have HV := Lib.hid hv
  have HL := Lib.hid hl
  clear hv hl
  go_enter Tryz.func66, Tryz.ntmps66
  go_wp2_with fail
  refine (HV.out _ _ ?_).mono ?_
  · go_simp
  rintro e w1 ⟨rfl, hb1⟩
  go_wp2
  go_ret
  exact ⟨ret_i64 (by have := HL.out; omega), ((Below.refl _ _).alloc (Nat.le_refl _) _).trans (hb1.mono (by simp))⟩

theorem key_big {x : Itm} (h : ¬ (1 ≤ x.key.size ∧ x.key.size ≤ 40)) : rightB x = false := by
  unfold rightB
  rw [decide_eq_false h, Bool.false_and]
theorem empty_of_size {s : ByteArray} (h : s.size = 0) : s = ⟨#[]⟩ := ByteArray.ext (Array.eq_empty_of_size_eq_zero h)
/-- The box of an item, in a world where nothing that was there has turned. -/
theorem box_cells {w w1 : World} (x : Itm) (hb : Below (w.heap.size + 1) (w.alloc (iobj x)) w1) :
    w1.cell? ⟨w.heap.size, 0, none⟩ = some (.string x.key) ∧ w1.cell? ⟨w.heap.size, 1, none⟩ = some (.string x.val) ∧ w1.cell? ⟨w.heap.size, 2, none⟩ = some (.int .i64 x.over) ∧ w1.cell? ⟨w.heap.size, 3, none⟩ = some (.int .i64 x.size) := by
  have hm := (Has.made w 24 #[.string x.key, .string x.val, .int .i64 x.over, .int .i64 x.size]).below hb (by omega)
  exact ⟨hm.cell 0, hm.cell 1, hm.cell 2, hm.cell 3⟩
set_option maxRecDepth 100000 in
set_option maxHeartbeats 1000000 in
theorem right_any (x : Itm) (w : World) : Calls Tryz.prog 127 #[iagg x] w fun e w' => e = .returned (.bool (rightB x)) ∧ Below w.heap.size w w' := by
  obtain ⟨k, v, o, s⟩ := x
  by_cases hk : 1 ≤ k.size ∧ k.size ≤ 40
  · obtain ⟨hk1, hk2⟩ := hk
    have HE := Lib.hid (fun w => else_any ⟨k, v, o, s⟩ w)
    have HB := Lib.hid (fun w1 => box_cells (w := w) (w1 := w1) ⟨k, v, o, s⟩)
    by_cases ho : o = 0
    · subst ho
      have hr : rightB ⟨k, v, 0, s⟩ = decide (s = 0 ∧ v.size ≤ 60) := by
        unfold rightB
        simp only [if_true]
        rw [decide_eq_true ⟨hk1, hk2⟩, Bool.true_and]
      rw [hr]
      by_cases hs : s = 0 ∧ v.size ≤ 60
      · rw [decide_eq_true hs]
        obtain ⟨rfl, hv⟩ := hs
        go_enter Tryz.func127, Tryz.ntmps127
        go_wp2_with fail
        refine (HE.out _).mono ?_
        rintro e w1 ⟨rfl, hb1⟩
        obtain ⟨c0, c1, c2, c3⟩ := HB.out w1 (by simpa using hb1)
        have H1 := Lib.hid hb1
        clear hb1
        go_wp2
        go_ret
        exact ⟨ret_bool (by simp; omega), ((Below.refl _ _).alloc (Nat.le_refl _) _).trans (H1.out.mono (by simp))⟩
      · rw [decide_eq_false hs]
        go_enter Tryz.func127, Tryz.ntmps127
        go_wp2_with fail
        refine (HE.out _).mono ?_
        rintro e w1 ⟨rfl, hb1⟩
        obtain ⟨c0, c1, c2, c3⟩ := HB.out w1 (by simpa using hb1)
        have H1 := Lib.hid hb1
        have HS := Lib.hid hs
        clear hb1 hs
        go_wp2
        all_goals
          go_ret
          refine ⟨?_, ((Below.refl _ _).alloc (Nat.le_refl _) _).trans (H1.out.mono (by simp))⟩
          have := HS.out
          first | rfl | (exact ret_bool (by simp; omega)) | (exfalso; omega)
    · have hr : rightB ⟨k, v, o, s⟩ = decide (0 < o ∧ o ≤ 4294967295 ∧ 60 < s ∧ s ≤ 2000 ∧ v = ⟨#[]⟩) := by
        unfold rightB
        simp only [if_neg ho]
        rw [decide_eq_true ⟨hk1, hk2⟩, Bool.true_and]
      rw [hr]
      have hne : (o != 0) = true := by simpa using ho
      by_cases hs : 0 < o ∧ o ≤ 4294967295 ∧ 60 < s ∧ s ≤ 2000 ∧ v = ⟨#[]⟩
      · rw [decide_eq_true hs]
        obtain ⟨ho1, ho2, hs1, hs2, rfl⟩ := hs
        have HNE := Lib.hid hne
        clear ho hne
        go_enter Tryz.func127, Tryz.ntmps127
        go_wp2_with fail
        refine (HE.out _).mono ?_
        rintro e w1 ⟨rfl, hb1⟩
        obtain ⟨c0, c1, c2, c3⟩ := HB.out w1 (by simpa using hb1)
        have H1 := Lib.hid hb1
        clear hb1
        simp only [HNE.out]
        go_wp2
        all_goals
          go_ret
          refine ⟨?_, ((Below.refl _ _).alloc (Nat.le_refl _) _).trans (H1.out.mono (by simp))⟩
          refine ret_bool ?_
          simp
      · rw [decide_eq_false hs]
        have HNE := Lib.hid hne
        have HS := Lib.hid hs
        clear ho hne hs
        go_enter Tryz.func127, Tryz.ntmps127
        go_wp2_with fail
        refine (HE.out _).mono ?_
        rintro e w1 ⟨rfl, hb1⟩
        obtain ⟨c0, c1, c2, c3⟩ := HB.out w1 (by simpa using hb1)
        have H1 := Lib.hid hb1
        clear hb1
        simp only [HNE.out]
        go_wp2
        all_goals
          go_ret
          refine ⟨?_, ((Below.refl _ _).alloc (Nat.le_refl _) _).trans (H1.out.mono (by simp))⟩
          refine ret_bool ?_
          have hs := HS.out
          first
            | (simp; done)
            | (simp; intro hv; exact hs ⟨by omega, by omega, by omega, by omega, toList_inj (hv.trans (by rw [Lib.toList_data]))⟩)
  · rw [key_big hk]
    by_cases h1 : 1 ≤ k.size
    · have h2 : 40 < k.size := by omega
      clear hk
      go_enter Tryz.func127, Tryz.ntmps127
      go_wp2_with fail
      go_ret
      exact ⟨rfl, (Below.refl _ _).alloc (Nat.le_refl _) _⟩
    · clear hk
      go_enter Tryz.func127, Tryz.ntmps127
      go_wp2_with fail
      go_ret
      exact ⟨rfl, (Below.refl _ _).alloc (Nat.le_refl _) _⟩

end Go.Proofs.YtpfifmjcmpankaaGreat

namespace Go.Proofs.YtpfifmjcmpankaaGreat
open Go.RowKit Go.Lib

/-- What is held of an item's box while nothing else turns. -/
theorem held_box {wr W0 : World} {x : Itm} (h : W0 = wr.alloc (iobj x)) : ∀ W, Below W0.heap.size W0 W → W.cell? ⟨wr.heap.size, 0, none⟩ = some (.string x.key) ∧ W.cell? ⟨wr.heap.size, 1, none⟩ = some (.string x.val) ∧ W.cell? ⟨wr.heap.size, 2, none⟩ = some (.int .i64 x.over) ∧ W.cell? ⟨wr.heap.size, 3, none⟩ = some (.int .i64 x.size) := by
  subst h
  intro W h
  exact box_cells x (by simpa using h)

/-- A truth's byte. -/
def boolS (b : Bool) : ByteArray := ⟨#[if b then 1 else 0]⟩
theorem boolS_size (b : Bool) : (boolS b).size = 1 := rfl
theorem boolS_any (b : Bool) (w : World) : Calls Tryz.prog 52 #[.bool b] w fun e w' => e = .returned (.string (boolS b)) ∧ w = w' := bool_any b w

theorem item_key (x : Itm) : (textB x.key).length + 1 ≤ (itemB x).length ∧ x.key.size + 1 ≤ (textB x.key).length := by
  have := textB_len x.key
  unfold itemB
  rw [List.length_append, List.length_cons]
  omega
theorem item_val {x : Itm} (h : x.over = 0) : (itemB x).length = (textB x.key).length + 1 + (textB x.val).length := by
  unfold itemB
  rw [if_pos h, if_pos h, List.length_append, List.length_cons]
  omega
theorem item_over {x : Itm} (h : x.over ≠ 0) : (itemB x).length = (textB x.key).length + 1 + (varsB [x.over, x.size]).length := by
  unfold itemB
  rw [if_neg h, if_neg h, List.length_append, List.length_cons]
  omega

set_option maxRecDepth 100000 in
set_option maxHeartbeats 1000000 in
theorem size_any (v : Value) (l : List Itm) (w : World) (hr : ReadsIt w w.heap.size v l) (hok : ∀ x ∈ l, x.ok) (hs : sz l ≤ 4611686018427387904) :
    Calls Tryz.prog 13 #[v] w fun e w' => e = .returned (.int .i64 (sz l : Nat)) ∧ Below w.heap.size w w' := by
  obtain ⟨A, c, rfl, hlc, hcm, _, hc⟩ := hr
  have hl63 : l.length ≤ 9223372036854775807 := by unfold maxLen at hcm; omega
  clear hlc hcm
  go_enter Tryz.func13, Tryz.ntmps13
  go_wp2
  go_loopw [3, 8] (fun n i wr => ∃ k : Nat, k ≤ l.length ∧ i = .int .i64 k ∧ n = .int .i64 (sz (l.take k) : Nat) ∧ Below w.heap.size w wr) (fun _ i _ => l.length - (RowKit.intOf i).toNat)
  case atStart => exact ⟨0, Nat.zero_le _, rfl, rfl, Below.refl _ _⟩
  case round =>
    obtain ⟨k, hk, rfl, rfl, hbl⟩ := hrel
    have hbs := hbl.size
    by_cases hlt : k < l.length
    · obtain ⟨b, off, rfl, hbb, hcell⟩ := hc (by omega)
      obtain ⟨c0, c1, c2, c3⟩ := (hcell.below hbl hbb) k hlt
      have hx := hok l[k] (by simp)
      have hts := (sz_take l (k + 1)).1
      rw [take_snoc1 l k hlt, sz_snoc] at hts
      have HS : Hid (sz (l.take (k + 1)) = sz (l.take k) + (itemB l[k]).length) := Lib.hid (by rw [take_snoc1 l k hlt, sz_snoc])
      generalize l[k] = x at *
      obtain ⟨hkl, hkl2⟩ := item_key x
      clear hc hcell
      go_wp2_with fail
      obtain ⟨W0, hW0⟩ : ∃ W0, W0 = wr.alloc (iobj x) := ⟨_, rfl⟩
      have hbx := held_box hW0
      have h0 : Below wr.heap.size wr W0 := by subst hW0; exact (Below.refl _ _).alloc (Nat.le_refl _) _
      have hb0 := Below.refl W0.heap.size W0
      obtain ⟨d0, d1, d2, d3⟩ := hbx W0 hb0
      rw [← hW0]
      have H1 := Lib.hid (fun W (h : Below W0.heap.size W0 W) => (tsize_any x.key W (by omega)).mono fun e w' ⟨h1, h2⟩ => (⟨h1, h.trans (h2.mono h.size), hbx w' (h.trans (h2.mono h.size))⟩ : e = _ ∧ Below W0.heap.size W0 w' ∧ _))
      have H2 := Lib.hid (fun W (h : Below W0.heap.size W0 W) => (else_any x W).mono fun e w' ⟨h1, h2⟩ => (⟨h1, h.trans (h2.mono h.size), hbx w' (h.trans (h2.mono h.size))⟩ : e = _ ∧ Below W0.heap.size W0 w' ∧ _))
      have HB := Lib.hid (And.intro hbx h0)
      have hbo := Nat.le_of_eq (boolS_size (x.over != 0))
      clear hW0 hbx h0
      go_region_held3 (fun w' => Below W0.heap.size W0 w' ∧ w'.cell? ⟨wr.heap.size, 0, none⟩ = some (.string x.key) ∧ w'.cell? ⟨wr.heap.size, 1, none⟩ = some (.string x.val) ∧ w'.cell? ⟨wr.heap.size, 2, none⟩ = some (.int .i64 x.over) ∧ w'.cell? ⟨wr.heap.size, 3, none⟩ = some (.int .i64 x.size)) (refine ⟨?_, ?_, ?_, ?_, ?_⟩ <;> first | assumption | (refine Below.drew ?_; assumption)) (first
        | (go_at_call 66; ((with_reducible refine (H1.out _ (by first | assumption | (refine Below.drew ?_; assumption))).mono ?_)); rintro e w1 ⟨rfl, hb1, f0, f1, f2, f3⟩)
        | (go_at_call 53; ((with_reducible refine (H2.out _ (by first | assumption | (refine Below.drew ?_; assumption))).mono ?_)); rintro e w2 ⟨rfl, hb2, g0, g1, g2, g3⟩)
        | (go_at_call 52; ((with_reducible refine (boolS_any _ _).mono ?_)); rintro e w3 ⟨rfl, rfl⟩))
      have e1 : IntKind.i64.wrap (↑(sz (List.take k l)) + IntKind.i64.wrap (↑(textB x.key).length + ↑(boolS (x.over != 0)).size)) = ((sz (l.take k) + ((textB x.key).length + 1) : Nat) : Int) := by
        rw [boolS_size, IntWalk.i64_in ((textB x.key).length + ((1 : Nat) : Int)) (by omega), IntWalk.i64_in _ (by omega)]
        omega
      rw [e1]
      have hH := HB.out.1
      clear e1 hb0 hb1 f0 f1 f2 f3 d0 d1 d2 d3 H1 hbo
      obtain ⟨M, hM⟩ : ∃ M, sz (l.take k) + ((textB x.key).length + 1) = M := ⟨_, rfl⟩
      rw [hM]
      by_cases ho : x.over = 0
      · have hiv := item_val ho
        have hb : (x.over != 0) = false := by simpa using ho
        have hvl := textB_len x.val
        have H3 := Lib.hid (fun W => tsize_any x.val W (by omega))
        have HS2 : Hid (sz (l.take (k + 1)) = M + (textB x.val).length) := Lib.hid (by rw [HS.out]; omega)
        have hMl : M + (textB x.val).length ≤ 4611686018427387904 := by omega
        have HH := Lib.hid hH
        rw [hb] at H2
        clear hM hiv HS hts hkl hH ho hb
        go_wp2_with fail
        refine (H2.out _ hb2).mono ?_
        rintro e w3 ⟨rfl, hb3, f0, f1, f2, f3⟩
        clear g0 g1 g2 g3
        go_wp2_with fail
        refine (H3.out _).mono ?_
        rintro e w4 ⟨rfl, hb4⟩
        go_wp2_with fail
        go_roundw
        case rel => exact ⟨k + 1, by omega, by go_num, by rw [HS2.out]; go_num, hbl.trans ((HB.out.2.trans (hb3.mono HB.out.2.size)).trans (hb4.mono (Nat.le_trans HB.out.2.size hb3.size)) |>.mono hbs)⟩
        case measure => simp [RowKit.intOf]; omega
      · have hiv := item_over ho
        have hb : (x.over != 0) = true := by simpa using ho
        have hvb := varsB_len [x.over, x.size] (by intro y hy; simp at hy; rcases hy with rfl | rfl; exact hx.2.2.1; exact hx.2.2.2)
        have H3 := Lib.hid (fun g W hc hd => var2_any g x.over x.size W hx.2.2.1 hx.2.2.2 hc hd)
        have HS2 : Hid (sz (l.take (k + 1)) = M + (varsB [x.over, x.size]).length) := Lib.hid (by rw [HS.out]; omega)
        have hMl : M + (varsB [x.over, x.size]).length ≤ 4611686018427387904 := by omega
        have HH := Lib.hid hH
        rw [hb] at H2
        clear hM hiv HS hts hkl hH ho hb
        generalize varsB [x.over, x.size] = Vb at *
        go_wp2_with fail
        refine (H2.out _ hb2).mono ?_
        rintro e w3 ⟨rfl, hb3, f0, f1, f2, f3⟩
        clear g0 g1 g2 g3
        go_wp2_with fail
        refine (H3.out _ _ ?_ ?_).mono ?_
        · go_simp
        · go_simp
        rintro e w4 ⟨rfl, hb4⟩
        go_wp2_with fail
        go_roundw
        case rel => exact ⟨k + 1, by omega, by go_num, by rw [HS2.out]; go_num, hbl.trans ((HB.out.2.trans (hb3.mono HB.out.2.size)).trans ((((Below.refl _ _).alloc (Nat.le_refl _) _).trans (hb4.mono (by simp))).mono (Nat.le_trans HB.out.2.size hb3.size)) |>.mono hbs)⟩
        case measure => simp [RowKit.intOf]; omega
    · obtain rfl : k = l.length := by omega
      rw [List.take_length]
      go_wp2
      go_ret
      exact ⟨rfl, hbl⟩
end Go.Proofs.YtpfifmjcmpankaaGreat
