/-
  Walks over the document's own answers to chapter 8: Right, an item's bytes, LeafSize.
-/
import Derived.Test.YtpfifmjcmpankaaGreatMg17
import Derived.Test.YtpfifmjcmpankaaGreatMg19
import Derived.Test.YtpfifmjcmpankaaGreatMg29
import Derived.Test.YtpfifmjcmpankaaGreatMg37
namespace Go.Proofs.YtpfifmjcmpankaaGreat
open Go.RowKit Go.Lib

set_option maxRecDepth 100000 in
set_option maxHeartbeats 1000000 in
theorem refRight_any (x : Itm) (w : World) : Calls Tryz.prog 56 #[iagg x] w fun e w' => e = .returned (.bool (rightB x)) ∧ Below w.heap.size w w' := by
  obtain ⟨k, v, o, s⟩ := x
  have hb : Below w.heap.size w (w.alloc (iobj ⟨k, v, o, s⟩)) := (Below.refl _ _).alloc (Nat.le_refl _) _
  by_cases hk : 1 ≤ k.size ∧ k.size ≤ 40
  · obtain ⟨hk1, hk2⟩ := hk
    by_cases ho : o = 0
    · subst ho
      have hr : rightB ⟨k, v, 0, s⟩ = decide (s = 0 ∧ v.size ≤ 60) := by
        unfold rightB
        simp only [if_true]
        rw [decide_eq_true ⟨hk1, hk2⟩, Bool.true_and]
      rw [hr]
      by_cases hs : s = 0
      · subst hs
        by_cases hv : v.size ≤ 60
        · rw [decide_eq_true ⟨rfl, hv⟩]
          have HB := Lib.hid hb
          clear hb hr
          go_enter Tryz.func56, Tryz.ntmps56
          go_wp2
          go_ret
          exact ⟨ret_bool (by simp; omega), HB.out⟩
        · rw [decide_eq_false (fun h => hv h.2)]
          have HB := Lib.hid hb
          clear hb hr
          go_enter Tryz.func56, Tryz.ntmps56
          go_wp2
          go_ret
          exact ⟨ret_bool (by simp; omega), HB.out⟩
      · rw [decide_eq_false (fun h => hs h.1)]
        have hs1 : (s == 0) = false := by simpa using hs
        have HB := Lib.hid hb
        clear hb hr hs
        go_enter Tryz.func56, Tryz.ntmps56
        go_wp2
        go_ret
        exact ⟨rfl, HB.out⟩
    · have hr : rightB ⟨k, v, o, s⟩ = decide (0 < o ∧ o ≤ 4294967295 ∧ 60 < s ∧ s ≤ 2000 ∧ v = ⟨#[]⟩) := by
        unfold rightB
        simp only [if_neg ho]
        rw [decide_eq_true ⟨hk1, hk2⟩, Bool.true_and]
      rw [hr]
      have hne : (o == 0) = false := by simpa using ho
      have HB := Lib.hid hb
      by_cases hs : 0 < o ∧ o ≤ 4294967295 ∧ 60 < s ∧ s ≤ 2000 ∧ v = ⟨#[]⟩
      · rw [decide_eq_true hs]
        obtain ⟨ho1, ho2, hs1, hs2, rfl⟩ := hs
        clear hb hr ho
        go_enter Tryz.func56, Tryz.ntmps56
        go_wp2
        all_goals
          go_ret
          refine ⟨?_, HB.out⟩
          first | rfl | (refine ret_bool ?_; simp)
      · rw [decide_eq_false hs]
        have HS := Lib.hid hs
        clear hb hr ho hs
        go_enter Tryz.func56, Tryz.ntmps56
        go_wp2
        all_goals
          go_ret
          refine ⟨?_, HB.out⟩
          have hs := HS.out
          first
            | rfl
            | (refine ret_bool ?_; simp; done)
            | (refine ret_bool ?_; simp; intro hv; exact hs ⟨by omega, by omega, by omega, by omega, toList_inj (hv.trans (by rw [Lib.toList_data]))⟩)
            | (exfalso; omega)
  · rw [key_big hk]
    have HB := Lib.hid hb
    by_cases h1 : 1 ≤ k.size
    · have h2 : 40 < k.size := by omega
      clear hk hb
      go_enter Tryz.func56, Tryz.ntmps56
      go_wp2
      go_ret
      exact ⟨rfl, HB.out⟩
    · clear hk hb
      go_enter Tryz.func56, Tryz.ntmps56
      go_wp2
      go_ret
      exact ⟨rfl, HB.out⟩

/-- The bytes of an item, as a text. -/
def itemS (x : Itm) : ByteArray := ⟨(itemB x).toArray⟩
theorem itemS_size (x : Itm) : (itemS x).size = (itemB x).length := by simp [itemS, ByteArray.size]
def varS (n : Int) : ByteArray := ⟨(uvarint (zigzag n)).toArray⟩
theorem varS_size {n : Int} (h : IsInt n) : (varS n).size ≤ 10 := by
  have h10 := uvarint_length64 (zigzag_lt h.1 h.2)
  simpa [varS, ByteArray.size] using h10
theorem item_bytes_val {x : Itm} (h : x.over = 0) : itemS x = (textS x.key ++ boolS (x.over != 0)) ++ textS x.val := by
  apply ByteArray.ext
  apply Array.ext'
  have hb : (x.over != 0) = false := by simpa using h
  simp [itemS, itemB, textS, boolS, h]
theorem item_bytes_over {x : Itm} (h : x.over ≠ 0) : itemS x = ((textS x.key ++ boolS (x.over != 0)) ++ varS x.over) ++ varS x.size := by
  apply ByteArray.ext
  apply Array.ext'
  have hb : (x.over != 0) = true := by simpa using h
  simp [itemS, itemB, textS, boolS, h, varsB, varS]

/-- Items whose texts are of a size that sums bear. -/
def Itm.fair (x : Itm) : Prop := x.key.size ≤ 100000 ∧ x.val.size ≤ 100000 ∧ IsInt x.over ∧ IsInt x.size

theorem item_long {x : Itm} (h : x.fair) : (itemB x).length ≤ 1000000 := by
  obtain ⟨hk, hv, ho, hz⟩ := h
  have h1 : (textB x.key).length ≤ 100010 := by
    have h10 := uvarint_length64 (zigzag_lt (x := (x.key.size : Int)) (by omega) (by omega))
    unfold textB; rw [List.length_append]; have : x.key.data.toList.length = x.key.size := by simp
    omega
  have h2 : (textB x.val).length ≤ 100010 := by
    have h10 := uvarint_length64 (zigzag_lt (x := (x.val.size : Int)) (by omega) (by omega))
    unfold textB; rw [List.length_append]; have : x.val.data.toList.length = x.val.size := by simp
    omega
  have h3 := varsB_len [x.over, x.size] (by intro y hy; simp at hy; rcases hy with rfl | rfl; exact ho; exact hz)
  simp only [List.length_cons, List.length_nil] at h3
  unfold itemB
  rw [List.length_append, List.length_cons]
  split <;> omega

set_option maxRecDepth 100000 in
set_option maxHeartbeats 1000000 in
theorem refItem_any (x : Itm) (w : World) (hf : x.fair) : Calls Tryz.prog 58 #[iagg x] w fun e w' => e = .returned (.string (itemS x)) ∧ Below w.heap.size w w' := by
  obtain ⟨hk, hv, ho, hz⟩ := hf
  have ht1 : (textS x.key).size ≤ 100010 := by
    have h10 := uvarint_length64 (zigzag_lt (x := (x.key.size : Int)) (by omega) (by omega))
    rw [textS_size]; unfold textB; rw [List.length_append]; have : x.key.data.toList.length = x.key.size := by simp
    omega
  have ht2 : (textS x.val).size ≤ 100010 := by
    have h10 := uvarint_length64 (zigzag_lt (x := (x.val.size : Int)) (by omega) (by omega))
    rw [textS_size]; unfold textB; rw [List.length_append]; have : x.val.data.toList.length = x.val.size := by simp
    omega
  have hbo := boolS_size (x.over != 0)
  have HT := Lib.hid (fun W => (refText_any x.key W (by omega)).mono fun e w' ⟨h1, h2⟩ => (⟨h1, h2⟩ : e = Ending.returned (.string (textS x.key)) ∧ Below W.heap.size W w'))
  have HV := Lib.hid (fun W => (refText_any x.val W (by omega)).mono fun e w' ⟨h1, h2⟩ => (⟨h1, h2⟩ : e = Ending.returned (.string (textS x.val)) ∧ Below W.heap.size W w'))
  have HB := Lib.hid (fun W => (refBool_any (x.over != 0) W).mono fun e w' ⟨h1, h2⟩ => (⟨h1, h2⟩ : e = Ending.returned (.string (boolS (x.over != 0))) ∧ W = w'))
  have hadd := add_any (textS x.key) (boolS (x.over != 0)) (by omega) (by omega)
  have h12 : (textS x.key ++ boolS (x.over != 0)).size ≤ 100011 := by rw [ByteArray.size_append]; omega
  go_enter Tryz.func58, Tryz.ntmps58
  go_wp2_with fail
  obtain ⟨W0, hW0⟩ : ∃ W0, W0 = w.alloc (iobj x) := ⟨_, rfl⟩
  have hbx := held_box hW0
  have h0 : Below w.heap.size w W0 := by subst hW0; exact (Below.refl _ _).alloc (Nat.le_refl _) _
  have hb0 := Below.refl W0.heap.size W0
  obtain ⟨d0, d1, d2, d3⟩ := hbx W0 hb0
  rw [← hW0]
  have HX := Lib.hid (And.intro hbx h0)
  have HS := Lib.hid ht2
  clear hW0 hbx h0 hbo ht1 ht2
  have e0 := cell_gw d0
  have e1 := cell_gw d1
  have e2 := cell_gw d2
  have e3 := cell_gw d3
  refine wp_region_gw (by kernel_rfl) (by kernel_rfl) ?_
  repeat (refine wq_step (fun K hK => ?_); go_simp; first | (refine hK _ ?_; clear hK K) | (apply Exists.intro; refine ⟨fun _ => ?_, hK _ ?_⟩; (first | (go_at_call 130; ((with_reducible exact Calls.gw_of (HT.out _)))) | (go_at_call 131; ((with_reducible exact Calls.gw_same (HB.out _))))); clear hK K))
  refine wq_nil ?_
  intro w1 hw1
  replace hw1 := gw_to hw1
  obtain ⟨f0, f1, f2, f3⟩ := HX.out.1 w1 hw1
  have hbw := HX.out.2.trans (hw1.mono HX.out.2.size)
  have HW := Lib.hid hbw
  clear e0 e1 e2 e3 d0 d1 d2 d3 hb0 hadd hbw
  by_cases hov : x.over = 0
  · have hib := item_bytes_val hov
    have hadd := add_any (textS x.key ++ boolS (x.over != 0)) (textS x.val) (by omega) (by have := HS.out; omega)
    generalize textS x.key ++ boolS (x.over != 0) = S1 at *
    have HI := Lib.hid hib
    have hne : (x.over != 0) = false := by simpa using hov
    clear hib h12
    go_wp2_with fail
    refine (HV.out _).mono ?_
    rintro e w2 ⟨rfl, hb2⟩
    go_wp2_with fail
    go_ret
    exact ⟨by rw [HI.out]; rfl, HW.out.trans (hb2.mono HW.out.size)⟩
  · have hib := item_bytes_over hov
    have hv1 := varS_size ho
    have hv2 := varS_size hz
    have hadd1 := add_any (textS x.key ++ boolS (x.over != 0)) (varS x.over) (by omega) (by omega)
    have hadd2 := add_any ((textS x.key ++ boolS (x.over != 0)) ++ varS x.over) (varS x.size) (by rw [ByteArray.size_append]; omega) (by omega)
    have HO := Lib.hid (fun W => (refVar_any x.over W ho).mono fun e w' ⟨h1, h2⟩ => (⟨h1, h2⟩ : e = Ending.returned (.string (varS x.over)) ∧ Below W.heap.size W w'))
    have HZ := Lib.hid (fun W => (refVar_any x.size W hz).mono fun e w' ⟨h1, h2⟩ => (⟨h1, h2⟩ : e = Ending.returned (.string (varS x.size)) ∧ Below W.heap.size W w'))
    generalize textS x.key ++ boolS (x.over != 0) = S1 at *
    have HI := Lib.hid hib
    have hne : (x.over != 0) = true := by simpa using hov
    clear hib h12 hv1 hv2
    go_wp2_with fail
    have e0 := cell_gw f0
    have e1 := cell_gw f1
    have e2 := cell_gw f2
    have e3 := cell_gw f3
    refine wp_region_gw (by kernel_rfl) (by kernel_rfl) ?_
    repeat (refine wq_step (fun K hK => ?_); go_simp; first | (refine hK _ ?_; clear hK K) | (apply Exists.intro; refine ⟨fun _ => ?_, hK _ ?_⟩; (first | (go_at_call 132; ((with_reducible exact Calls.gw_of (HO.out _)))) | (go_at_call 132; ((with_reducible exact Calls.gw_of (HZ.out _))))); clear hK K))
    refine wq_nil ?_
    intro w2 hw2
    replace hw2 := gw_to hw2
    clear e0 e1 e2 e3 f0 f1 f2 f3
    go_wp2
    go_ret
    exact ⟨by rw [HI.out]; rfl, HW.out.trans (hw2.mono HW.out.size)⟩

set_option maxRecDepth 100000 in
set_option maxHeartbeats 1000000 in
theorem refLeafSize_any (v : Value) (l : List Itm) (w : World) (hr : ReadsIt w w.heap.size v l) (hf : ∀ x ∈ l, x.fair) (hl : l.length ≤ 100000) :
    Calls Tryz.prog 14 #[v] w fun e w' => e = .returned (.int .i64 (sz l : Nat)) ∧ Below w.heap.size w w' := by
  obtain ⟨A, c, rfl, _, _, _, hc⟩ := hr
  go_enter Tryz.func14, Tryz.ntmps14
  go_wp2
  go_loopw [3, 4] (fun n i wr => ∃ k : Nat, k ≤ l.length ∧ i = .int .i64 k ∧ n = .int .i64 (sz (l.take k) : Nat) ∧ sz (l.take k) ≤ k * 1000000 ∧ Below w.heap.size w wr) (fun _ i _ => l.length - (RowKit.intOf i).toNat)
  case atStart => exact ⟨0, Nat.zero_le _, rfl, rfl, by simp [sz, leafB], Below.refl _ _⟩
  case round =>
    obtain ⟨k, hk, rfl, rfl, hsk, hbl⟩ := hrel
    have hbs := hbl.size
    by_cases hlt : k < l.length
    · obtain ⟨b, off, rfl, hbb, hcell⟩ := hc (by omega)
      obtain ⟨c0, c1, c2, c3⟩ := (hcell.below hbl hbb) k hlt
      have hx := hf l[k] (by simp)
      have HS : Hid (sz (l.take (k + 1)) = sz (l.take k) + (itemB l[k]).length) := Lib.hid (by rw [take_snoc1 l k hlt, sz_snoc])
      have hI := refItem_any l[k] wr hx
      have hIl := item_long hx
      generalize l[k] = x at *
      have hsz := itemS_size x
      generalize itemS x = S at *
      have HB := Lib.hid (And.intro hbl hsz)
      rw [← hsz] at hIl
      obtain ⟨T, hT⟩ : ∃ T, sz (l.take k) = T := ⟨_, rfl⟩
      rw [hT] at hsk ⊢
      have HT := Lib.hid hT
      clear hc hcell hbl hsz hT hx
      go_wp2_with fail
      refine hI.mono ?_
      rintro e w1 ⟨rfl, hb1⟩
      have hTb : T ≤ 100000000000 := by omega
      clear hI c0 c1 c2 c3
      go_wp2_with fail
      go_roundw
      case rel =>
        refine ⟨k + 1, by omega, by go_num, ?_, ?_, HB.out.1.trans (hb1.mono hbs)⟩
        · rw [HS.out, HT.out, ← HB.out.2]
          go_num
        · rw [HS.out, HT.out, ← HB.out.2]
          omega
      case measure => simp [RowKit.intOf]; omega
    · obtain rfl : k = l.length := by omega
      rw [List.take_length]
      go_wp2
      go_ret
      exact ⟨rfl, hbl⟩
end Go.Proofs.YtpfifmjcmpankaaGreat
