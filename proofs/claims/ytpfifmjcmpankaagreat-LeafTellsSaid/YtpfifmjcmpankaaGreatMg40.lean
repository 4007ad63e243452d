/-
  Walks over the document's own answers to chapter 8: SplitLeaf.
-/
import Derived.Test.YtpfifmjcmpankaaGreatMg38
import Derived.Test.YtpfifmjcmpankaaGreatMg39
namespace Go.Proofs.YtpfifmjcmpankaaGreat
open Go.RowKit Go.Lib

theorem row_readsN {base : Nat} {w : World} {v : Value} {l : List Itm} {n : Nat} (hn : l.length = n) (h : w.ownsRow base 24 4 v n (ilist l)) : ReadsIt w w.heap.size v l := by
  subst hn
  exact row_readsIt h

/-- v is a row of the items l, in a block that is made since base. -/
def OwnI (base : Nat) (w : World) (v : Value) (l : List Itm) : Prop := w.ownsRow base 24 4 v l.length (ilist l)
theorem OwnI.of {base base' : Nat} {w : World} {v : Value} {l : List Itm} {n : Nat} (hn : l.length = n) (h : w.ownsRow base 24 4 v n (ilist l)) (hb : base' ≤ base) : OwnI base' w v l := by
  subst hn
  exact row_lower h hb
theorem OwnI.on {base : Nat} {w w' : World} {v : Value} {l : List Itm} (h : OwnI base w v l) (hb : Below w.heap.size w w') : OwnI base w' v l := row_kept (F := []) h (Kept.of_below hb) (fun _ _ e => by simp at e)
theorem OwnI.reads {base : Nat} {w : World} {v : Value} {l : List Itm} (h : OwnI base w v l) : ReadsIt w w.heap.size v l := row_readsIt h

set_option maxRecDepth 100000 in
set_option maxHeartbeats 1000000 in
theorem refSplit_any (v : Value) (l : List Itm) (w : World) (hr : ReadsIt w w.heap.size v l) (hf : ∀ x ∈ l, x.fair) (hl : l.length ≤ 100000) (hs : sz l ≤ 1000000000000) :
    Calls Tryz.prog 24 #[v] w fun e w' => ∃ v1 v2, e = .returned (.tuple #[v1, v2]) ∧ OwnI w.heap.size w' v1 (l.take (halfL l)) ∧ OwnI w.heap.size w' v2 (l.drop (halfL l)) ∧ Below w.heap.size w w' := by
  obtain ⟨A, c, rfl⟩ := hr.form
  have hc1 : l.length ≤ c := by obtain ⟨A', c', hv, hc, _⟩ := hr; cases hv; exact hc
  have HR := Lib.hid hr
  by_cases h2 : l.length < 2
  · have hh : halfL l = l.length := by unfold halfL; rw [if_pos h2]
    rw [hh, List.take_length, List.drop_length]
    obtain ⟨A2, c2, w2, hrun, hown, hb2⟩ := run_fresh8 hr (by omega) w.heap.size (Nat.le_refl _) 22
    have hli : (l.length : Int) < 2 := by omega
    have HX := Lib.hid (And.intro hrun (And.intro hown hb2))
    clear hr hrun hown hb2 hh
    go_enter Tryz.func24, Tryz.ntmps24
    go_wp2_with (at_builtin; (refine wpList_append_run8 w (by kernel_rfl) _ _ 22 22 rfl (.slice none 0 0) (.slice A l.length c) rfl rfl _ _ HX.out.1 ?_))
    go_ret2
    exact ⟨_, _, rfl, HX.out.2.1, World.ownsRow_nil _ _ _ _, HX.out.2.2⟩
  · have hli : ¬ (l.length : Int) < 2 := by omega
    clear hr
    go_enter Tryz.func24, Tryz.ntmps24
    go_wp2_with fail
    go_loopw [4, 5, 6] (fun bv av i wr => ∃ k : Nat, 1 ≤ k ∧ k ≤ l.length ∧ i = .int .i64 k ∧ ((k = 1 ∧ bv = .int .i64 0 ∧ av = .int .i64 0) ∨ (2 ≤ k ∧ bv = .int .i64 ((bestTo l (k - 1)).1 : Nat) ∧ av = .int .i64 ((bestTo l (k - 1)).2 : Nat))) ∧ Below w.heap.size w wr) (fun _ _ i _ => l.length - (RowKit.intOf i).toNat)
    case atStart => exact ⟨1, Nat.le_refl _, by omega, rfl, .inl ⟨rfl, rfl, rfl⟩, Below.refl _ _⟩
    case round =>
      obtain ⟨k, hk1, hk, rfl, hst, hbl⟩ := hrel
      have hbs := hbl.size
      by_cases hlt : k < l.length
      · have hrH := run_high A l.length c k (by omega)
        have hrL := run_low A l.length c k (by omega)
        obtain ⟨A2, hA2⟩ : ∃ A2, lowV A l.length c k = .slice A2 (l.length - k) (c - k) := ⟨_, rfl⟩
        simp only [hA2] at hrL
        have hltI : (k : Int) < l.length := by omega
        have HS1 := Lib.hid (fun W (hb : Below w.heap.size w W) => refLeafSize_any (.slice A k c) (l.take k) W (reads_high (HR.out.grow hb hb.size) (by omega)) (fun y hy => hf y (List.mem_of_mem_take hy)) (by simp; omega))
        have HS2 := Lib.hid (fun W (hb : Below w.heap.size w W) => refLeafSize_any (.slice A2 (l.length - k) (c - k)) (l.drop k) W (hA2 ▸ reads_low (HR.out.grow hb hb.size) (by omega)) (fun y hy => hf y (List.mem_of_mem_drop hy)) (by simp; omega))
        have hgr : grOf l k = max (sz (l.take k)) (sz (l.drop k)) := by unfold grOf; rw [(sz_take l k).2]; congr 1; omega
        have HG1 := Lib.hid (fun d os => HS1.out (gw wr d os) (hbl.trans ((gw_below wr d os).mono hbs)))
        have HG2 := Lib.hid (fun d os => HS2.out (gw wr d os) (hbl.trans ((gw_below wr d os).mono hbs)))
        have HG := Lib.hid (And.intro hgr (And.intro hst hbl))
        clear hst hbl hgr hA2 HS1 HS2
        generalize sz (l.take k) = T1 at *
        generalize sz (l.drop k) = T2 at *
        go_wp2_with fail
        refine wp_region_gw (by kernel_rfl) (by kernel_rfl) ?_
        repeat (refine wq_step (fun K hK => ?_); go_simp; first | (refine hK _ ?_; clear hK K) | (apply Exists.intro; refine ⟨fun _ => ?_, hK _ ?_⟩; (first | (go_at_call 14; ((with_reducible exact Calls.gw_of (HG1.out _ _)))) | (go_at_call 14; ((with_reducible exact Calls.gw_of (HG2.out _ _))))); clear hK K))
        refine wq_nil ?_
        intro w1 hw1
        replace hw1 := gw_to hw1
        obtain ⟨G, hG⟩ : ∃ G, grOf l k = G := ⟨_, rfl⟩
        have hm : max (T1 : Int) (T2 : Int) = (G : Int) := by rw [← hG, HG.out.1]; omega
        rw [hm]
        have HW := Lib.hid (And.intro hw1 hG)
        have hbw := HG.out.2.2.trans (hw1.mono hbs)
        have HB := Lib.hid hbw
        clear hw1 hG hm hbw
        rcases HG.out.2.1 with ⟨rfl, rfl, rfl⟩ | ⟨hk2, rfl, rfl⟩
        · go_wp2_with fail
          go_roundw
          case rel =>
            refine ⟨2, by omega, by omega, by rfl, .inr ⟨by omega, ?_, ?_⟩, HB.out⟩
            · have h1 := bestTo_is l 1 (by omega)
              have h2 := (bestTo_le l 1).2
              have h3 : (bestTo l 1).2 = 1 := by omega
              rw [h3, HW.out.2] at h1
              show _ = Value.int .i64 ((bestTo l 1).1 : Nat)
              rw [h1.2]
            · have h1 := bestTo_is l 1 (by omega)
              have h2 := (bestTo_le l 1).2
              have h3 : (bestTo l 1).2 = 1 := by omega
              show _ = Value.int .i64 ((bestTo l 1).2 : Nat)
              rw [h3]
          case measure => simp [RowKit.intOf]; omega
        · obtain ⟨j, rfl⟩ : ∃ j, k = j + 1 := ⟨k - 1, by omega⟩
          have hbj : bestTo l (j + 1) = if grOf l (j + 1) < (bestTo l j).1 then (grOf l (j + 1), j + 1) else bestTo l j := rfl
          rw [HW.out.2] at hbj
          have hj1 : j + 1 - 1 = j := by omega
          rw [hj1]
          obtain ⟨B, hB⟩ : ∃ B, (bestTo l j).1 = B := ⟨_, rfl⟩
          obtain ⟨T, hT⟩ : ∃ T, (bestTo l j).2 = T := ⟨_, rfl⟩
          rw [hB] at hbj
          have HJ := Lib.hid (And.intro hbj (And.intro hB hT))
          rw [hB, hT]
          have hjn : ¬ ((j : Int) = 0) := by omega
          have hne : (((j + 1 : Nat) : Int) == 1) = false := by rw [beq_eq_false_iff_ne]; omega
          clear hbj hB hT hj1
          by_cases hlt2 : G < B
          · go_wp2_with fail
            go_roundw
            case rel =>
              have h0 := HJ.out.1
              rw [if_pos hlt2] at h0
              refine ⟨j + 2, by omega, by omega, by go_num, .inr ⟨by omega, ?_, ?_⟩, HB.out⟩
              · show _ = Value.int .i64 ((bestTo l (j + 1)).1 : Nat)
                rw [h0]
              · show _ = Value.int .i64 ((bestTo l (j + 1)).2 : Nat)
                rw [h0]
                simp
            case measure => simp [RowKit.intOf]; omega
          · go_wp2_with fail
            go_roundw
            case rel =>
              have h0 := HJ.out.1
              rw [if_neg hlt2] at h0
              refine ⟨j + 2, by omega, by omega, by go_num, .inr ⟨by omega, ?_, ?_⟩, HB.out⟩
              · show _ = Value.int .i64 ((bestTo l (j + 1)).1 : Nat)
                rw [h0, HJ.out.2.1]
              · show _ = Value.int .i64 ((bestTo l (j + 1)).2 : Nat)
                rw [h0, HJ.out.2.2]
            case measure => simp [RowKit.intOf]; omega
      · obtain rfl : k = l.length := by omega
        rcases hst with ⟨h1, _, _⟩ | ⟨hk2, rfl, rfl⟩
        · omega
        have hh : (bestTo l (l.length - 1)).2 = halfL l := by unfold halfL; rw [if_neg h2]
        rw [hh]
        have hle := half_le l
        obtain ⟨h, hhh⟩ : ∃ h, halfL l = h := ⟨_, rfl⟩
        rw [hhh] at hle ⊢
        have hrH := run_high A l.length c h (by omega)
        have hrL := run_low A l.length c h (by omega)
        obtain ⟨A2, hA2⟩ : ∃ A2, lowV A l.length c h = .slice A2 (l.length - h) (c - h) := ⟨_, rfl⟩
        simp only [hA2] at hrL
        have HT := Lib.hid (fun W (hb : Below wr.heap.size wr W) => reads_high (HR.out.below (hbl.trans (hb.mono hbs))) (k := h) hle)
        have HD := Lib.hid (fun W (hb : Below wr.heap.size wr W) => (hA2 ▸ reads_low (HR.out.below (hbl.trans (hb.mono hbs))) (k := h) hle : ReadsIt W w.heap.size (.slice A2 (l.length - h) (c - h)) (l.drop h)))
        have HN := Lib.hid (And.intro (show (l.take h).length = h by simp; omega) (And.intro (show (l.drop h).length = l.length - h by simp) (And.intro (show h ≤ 1000000 by omega) (And.intro (show l.length - h ≤ 1000000 by omega) hbl))))
        have HH2 := Lib.hid hhh
        clear hh hhh hbl hA2 hl hs
        go_wp2_with fail
        go_region_held3 (fun w' => Below wr.heap.size wr w') (first | assumption | exact (Below.refl _ _).drew) (first
          | (refine wp_append_its8 _ _ rfl _ _ (.slice none 0 0) [] 0 rfl rfl (World.ownsRow_nil _ _ _ _) _ (.slice A h c) (l.take h) rfl (HT.out _ (by first | assumption | exact (Below.refl _ _).drew)) h HN.out.1 HN.out.2.2.1 (Nat.le_refl _) ?_; intro A3 c3' w3 hown3 hb3; have hr3 := OwnI.of (base' := w.heap.size) (l := l.take h) HN.out.1 hown3 (by first | exact hbs | exact Nat.le_trans hbs (Below.size (by assumption))); have hq3 : Below wr.heap.size wr w3 := Below.trans (by first | assumption | exact (Below.refl _ _).drew) (hb3.mono (by first | exact Nat.le_refl _ | exact Below.size (by assumption))))
          | (refine wp_append_its8 _ _ rfl _ _ (.slice none 0 0) [] 0 rfl rfl (World.ownsRow_nil _ _ _ _) _ (.slice A2 (l.length - h) (c - h)) (l.drop h) rfl (HD.out _ (by first | assumption | exact (Below.refl _ _).drew)) (l.length - h) HN.out.2.1 HN.out.2.2.2.1 (Nat.le_refl _) ?_; intro A4 c4' w4 hown4 hb4; have hr4 := OwnI.of (base' := w.heap.size) (l := l.drop h) HN.out.2.1 hown4 (by first | exact hbs | exact Nat.le_trans hbs (Below.size (by assumption))); have hq4 : Below wr.heap.size wr w4 := Below.trans (by first | assumption | exact (Below.refl _ _).drew) (hb4.mono (by first | exact Nat.le_refl _ | exact Below.size (by assumption)))))
        all_goals
          go_wp2_with fail
          go_ret2
          rw [HH2.out]
          refine ⟨_, _, rfl, ?_, ?_, ?_⟩
          · first | exact hr3 | exact hr3.on hb4
          · first | exact hr4 | exact hr4.on hb3
          · first | exact HN.out.2.2.2.2.trans (hq4.mono hbs) | exact HN.out.2.2.2.2.trans (hq3.mono hbs)
end Go.Proofs.YtpfifmjcmpankaaGreat
