/-
  The document's own free pages: Release (printed by genRF5.py).
-/
import Derived.Test.YtjimjemogbphaaaGreatMg22
namespace Go.Proofs.YtjimjemogbphaaaGreat
open Go.RowKit

/-- May a page that waits come free? -/
def rdue (P : List Int) (u : Int × Int) : Bool := match P with | [] => true | e :: _ => decide (u.1 ≤ e)
theorem filter_snoc (f : Int × Int → Bool) (W : List (Int × Int)) (j : Nat) (h : j < W.length) : (W.take (j + 1)).filter f = (W.take j).filter f ++ if f W[j] then [W[j]] else [] := by
  rw [List.take_succ_eq_append_getElem h, List.filter_append]
  congr 1
  by_cases hf : f W[j] <;> simp [hf]

/-- Where Release stands. -/
def RelR (w : World) (p : Nat) (vL vW vP : Value) (L : List Int) (W : List (Int × Int)) (P : List Int) (N : Nat) (g : Nat) (qv nv iv : Value) (wr : World) : Prop :=
  ∃ (j : Nat) (u : Value) (L' : List Int), iv = .int .i64 j ∧ j + g = N ∧ nv = .int .i64 (((W.take j).filter (rdue P)).length : Nat) ∧ RFr wr p u vW vP L' W P ∧ Goes (rffoot p vL vW vP) w (rffoot p u vW vP) wr ∧
    L'.Perm (((W.take j).filter (rdue P)).map (·.2) ++ L) ∧ L'.Pairwise (· ≤ ·) ∧ wr.ownsRow 0 90 2 qv ((W.take j).filter (fun x => !rdue P x)).length (wlist ((W.take j).filter (fun x => !rdue P x))) ∧
    ∀ q, qv.ownBlock = some q → w.heap.size ≤ q ∧ q ∉ rffoot p u vW vP

section
variable {w : World} {p : Nat} {vL vW vP : Value} {L : List Int} {W : List (Int × Int)} {P : List Int}

set_option maxRecDepth 100000 in
set_option maxHeartbeats 4000000 in
theorem rfRelease_any (h : RFr w p vL vW vP L W P) (hl : W.length + L.length ≤ 100000) (hs : L.Pairwise (· ≤ ·)) :
    Calls Tryz.prog 21 #[.pointer (some ⟨p, 0, none⟩)] w fun e w' => e = .returned (.int .i64 ((W.filter (rdue P)).length : Nat)) ∧ ∃ L', REnd w p vL vW vP L' (W.filter (fun x => !rdue P x)) P w' ∧ L'.Perm ((W.filter (rdue P)).map (·.2) ++ L) ∧ L'.Pairwise (· ≤ ·) := by
  obtain ⟨N, hN⟩ : ∃ n, W.length = n := ⟨_, rfl⟩
  have hnb : N ≤ 100000 := by omega
  have HN := Lib.hid (And.intro hN (And.intro hl hs))
  have H := Lib.hid h
  have hwt := h.wt
  rw [hN] at hwt
  obtain ⟨A7, c7, hv7⟩ := row_form hwt
  subst hv7
  clear h hl hN hs hwt
  go_enter Tryz.func21, Tryz.ntmps21
  go_wp2_with fail
  go_loopg [3, 4, 5] N (RelR w p vL (.slice A7 N c7) vP L W P N)
  case atStart => exact ⟨0, vL, L, rfl, by omega, rfl, H.out, Goes.refl _ _, List.Perm.refl _, HN.out.2.2, World.ownsRow_nil _ _ _ _, by simp [Value.ownBlock]⟩
  case round =>
    obtain ⟨j, u, L', rfl, hjg, rfl, hf, hgo, hpm, hso, hrow, hqn⟩ := hrel
    have c0 : wr.cell? ⟨p, 0, none⟩ = some u := hf.has.cell 0
    have c1 : wr.cell? ⟨p, 1, none⟩ = some (.slice A7 N c7) := hf.has.cell 1
    have c2 : wr.cell? ⟨p, 2, none⟩ = some vP := hf.has.cell 2
    obtain ⟨AQ, cQ, hvQ⟩ := row_form hrow
    have hln : ((W.take j).filter (rdue P)).length ≤ j := by
      have h1 := List.length_filter_le (rdue P) (W.take j)
      rw [List.length_take] at h1
      omega
    have hlq : ((W.take j).filter (fun x => !rdue P x)).length ≤ j := by
      have h1 := List.length_filter_le (fun x => !rdue P x) (W.take j)
      rw [List.length_take] at h1
      omega
    by_cases hlt : j < N
    · have hlt' : j < W.length := by rw [HN.out.1]; exact hlt
      have hwt := hf.wt
      rw [HN.out.1] at hwt
      rcases hwt.2 with ⟨_, h0⟩ | ⟨g2, cap2, cur2, hv, _, hg2, _⟩
      · omega
      · simp only [Value.slice.injEq] at hv
        obtain ⟨rfl, _, rfl⟩ := hv
        obtain ⟨d0, d1⟩ := wrow_cells hwt hlt'
        have hg2l : g2 < wr.heap.size := lt_of_block hg2
        have hg2p : g2 ≠ p := hf.ne g2 (mem_rfr.2 (.inr (.inl rfl)))
        have hL' : L'.length ≤ 100000 := by
          have h1 := hpm.length_eq
          have h2 := HN.out.2.1
          have h3 := HN.out.1
          simp only [List.length_append, List.length_map] at h1
          omega
        obtain ⟨A6, c6, hu6⟩ := hf.l.form
        have k0 : (0 : Int) ≤ j := by omega
        have k1 : (j : Int) < N := by omega
        have hpl := hf.has.inside
        have HJ := Lib.hid hjg
        have hS : ∀ q, (wr.drewN q).drew.cell? ⟨p, 0, none⟩ = some u ∧ (wr.drewN q).drew.cell? ⟨p, 1, none⟩ = some (.slice (some ⟨g2, 0, none⟩) N c7) ∧ (wr.drewN q).drew.cell? ⟨g2, j * 2 + 1, none⟩ = some (.int .i64 W[j].2) := fun _ => ⟨c0, c1, d1⟩
        have hpu := fun q => refPut_any (w := (wr.drewN q).drew) W[j].2 (hf.l.kept (F := []) ((Kept.refl _ _).drewN q).drew (by simp)) hL'
        have fs := filter_snoc (rdue P) W j hlt'
        have fs2 := filter_snoc (fun x => !rdue P x) W j hlt'
        have hrowlt := fun q hq => (hrow.lt q hq).2
        have HE := Lib.hid (And.intro hf (And.intro hgo (And.intro hpm (And.intro hso (And.intro hrow (And.intro hqn (And.intro fs (And.intro fs2 (And.intro d1 (And.intro hg2l hrowlt))))))))))
        obtain ⟨y, hy⟩ : ∃ y, W[j] = y := ⟨_, rfl⟩
        have HY := Lib.hid hy
        rw [hy] at d0 d1 hpu hS
        obtain ⟨y1, y2⟩ := y
        simp only at d0 d1 hpu hS
        obtain ⟨cnt, hcnt⟩ : ∃ cnt, ((W.take j).filter (rdue P)).length = cnt := ⟨_, rfl⟩
        obtain ⟨lc, hlc⟩ : ∃ lc, ((W.take j).filter (fun x => !rdue P x)).length = lc := ⟨_, rfl⟩
        have HC := Lib.hid (And.intro hcnt hlc)
        rw [hcnt] at hln ⊢
        rw [hlc] at hvQ hlq
        subst hu6 hvQ
        generalize L'.length = n6 at *
        rcases P with _ | ⟨e0, Pr⟩
        · obtain ⟨A8, c8, hv8⟩ := hf.pi.form
          rw [List.length_nil] at hv8
          subst hv8
          have hdy : rdue [] W[j] = true := rfl
          clear hf hgo hpm hso hrow hqn fs fs2 hrowlt hy hwt hcnt hlc hL' c0 d1 hjg
          go_wp2_with fail
          go_quiet (fail)
          go_wp2_with fail
          have hpuq := hpu nq
          have hSq := hS nq
          clear hpu hS
          refine wp_region_tills (fun w' => w'.cell? ⟨p, 0, none⟩ = some (.slice A6 n6 c6) ∧ w'.cell? ⟨p, 1, none⟩ = some (.slice (some ⟨g2, 0, none⟩) N c7) ∧ w'.cell? ⟨g2, j * 2 + 1, none⟩ = some (.int .i64 y2)) 14 (by kernel_rfl) ?_
          refine till_takeAt 48 (i := 0) (v := .pointer (some ⟨p, 0, none⟩)) rfl rfl (by kernel_rfl) (by kernel_rfl) (by kernel_rfl) (by kernel_rfl) (by kernel_rfl) (fun _ _ _ h => h) (Or.inl ⟨by rfl, fun w' hw' => by obtain ⟨q1, q2, q3⟩ := hw'; go_simp⟩) hSq ?_
          simp only [List.setIfInBounds_toArray, List.set_cons_zero, List.set_cons_succ]
          refine till_takeAt 49 (i := 1) (v := .pointer (some ⟨p, 0, none⟩)) rfl rfl (by kernel_rfl) (by kernel_rfl) (by kernel_rfl) (by kernel_rfl) (by kernel_rfl) (fun _ _ _ h => h) (Or.inl ⟨by rfl, fun w' hw' => by obtain ⟨q1, q2, q3⟩ := hw'; go_simp⟩) hSq ?_
          simp only [List.setIfInBounds_toArray, List.set_cons_zero, List.set_cons_succ]
          refine till_takeAt 50 (i := 2) (v := .pointer (some ⟨p, 0, none⟩)) rfl rfl (by kernel_rfl) (by kernel_rfl) (by kernel_rfl) (by kernel_rfl) (by kernel_rfl) (fun _ _ _ h => h) (Or.inl ⟨by rfl, fun w' hw' => by obtain ⟨q1, q2, q3⟩ := hw'; go_simp⟩) hSq ?_
          simp only [List.setIfInBounds_toArray, List.set_cons_zero, List.set_cons_succ]
          refine till_takeAt 51 (i := 3) (v := .pointer (some ⟨p, 0, none⟩)) rfl rfl (by kernel_rfl) (by kernel_rfl) (by kernel_rfl) (by kernel_rfl) (by kernel_rfl) (fun _ _ _ h => h) (Or.inl ⟨by rfl, fun w' hw' => by obtain ⟨q1, q2, q3⟩ := hw'; go_simp⟩) hSq ?_
          simp only [List.setIfInBounds_toArray, List.set_cons_zero, List.set_cons_succ]
          refine till_takeAt 52 (i := 4) (v := .slice A6 n6 c6) rfl rfl (by kernel_rfl) (by kernel_rfl) (by kernel_rfl) (by kernel_rfl) (by kernel_rfl) (fun _ _ _ h => h) (Or.inl ⟨by rfl, fun w' hw' => by obtain ⟨q1, q2, q3⟩ := hw'; go_simp⟩) hSq ?_
          simp only [List.setIfInBounds_toArray, List.set_cons_zero, List.set_cons_succ]
          refine till_takeAt 53 (i := 5) (v := .pointer (some ⟨p, 0, none⟩)) rfl rfl (by kernel_rfl) (by kernel_rfl) (by kernel_rfl) (by kernel_rfl) (by kernel_rfl) (fun _ _ _ h => h) (Or.inl ⟨by rfl, fun w' hw' => by obtain ⟨q1, q2, q3⟩ := hw'; go_simp⟩) hSq ?_
          simp only [List.setIfInBounds_toArray, List.set_cons_zero, List.set_cons_succ]
          refine till_takeAt 54 (i := 6) (v := .pointer (some ⟨p, 0, none⟩)) rfl rfl (by kernel_rfl) (by kernel_rfl) (by kernel_rfl) (by kernel_rfl) (by kernel_rfl) (fun _ _ _ h => h) (Or.inl ⟨by rfl, fun w' hw' => by obtain ⟨q1, q2, q3⟩ := hw'; go_simp⟩) hSq ?_
          simp only [List.setIfInBounds_toArray, List.set_cons_zero, List.set_cons_succ]
          refine till_takeAt 55 (i := 7) (v := .pointer (some ⟨p, 1, none⟩)) rfl rfl (by kernel_rfl) (by kernel_rfl) (by kernel_rfl) (by kernel_rfl) (by kernel_rfl) (fun _ _ _ h => h) (Or.inl ⟨by rfl, fun w' hw' => by obtain ⟨q1, q2, q3⟩ := hw'; go_simp⟩) hSq ?_
          simp only [List.setIfInBounds_toArray, List.set_cons_zero, List.set_cons_succ]
          refine till_takeAt 56 (i := 8) (v := .slice (some ⟨g2, 0, none⟩) N c7) rfl rfl (by kernel_rfl) (by kernel_rfl) (by kernel_rfl) (by kernel_rfl) (by kernel_rfl) (fun _ _ _ h => h) (Or.inl ⟨by rfl, fun w' hw' => by obtain ⟨q1, q2, q3⟩ := hw'; go_simp⟩) hSq ?_
          simp only [List.setIfInBounds_toArray, List.set_cons_zero, List.set_cons_succ]
          refine till_takeAt 57 (i := 9) (v := .int .i64 j) rfl rfl (by kernel_rfl) (by kernel_rfl) (by kernel_rfl) (by kernel_rfl) (by kernel_rfl) (fun _ _ _ h => h) (Or.inl ⟨by rfl, fun w' hw' => by obtain ⟨q1, q2, q3⟩ := hw'; go_simp⟩) hSq ?_
          simp only [List.setIfInBounds_toArray, List.set_cons_zero, List.set_cons_succ]
          refine till_takeAt 58 (i := 10) (v := .pointer (some ⟨g2, j * 2, none⟩)) rfl rfl (by kernel_rfl) (by kernel_rfl) (by kernel_rfl) (by kernel_rfl) (by kernel_rfl) (fun _ _ _ h => h) (Or.inl ⟨by rfl, fun w' hw' => by obtain ⟨q1, q2, q3⟩ := hw'; go_simp⟩) hSq ?_
          simp only [List.setIfInBounds_toArray, List.set_cons_zero, List.set_cons_succ]
          refine till_takeAt 59 (i := 11) (v := .pointer (some ⟨g2, j * 2 + 1, none⟩)) rfl rfl (by kernel_rfl) (by kernel_rfl) (by kernel_rfl) (by kernel_rfl) (by kernel_rfl) (fun _ _ _ h => h) (Or.inl ⟨by rfl, fun w' hw' => by obtain ⟨q1, q2, q3⟩ := hw'; go_simp⟩) hSq ?_
          simp only [List.setIfInBounds_toArray, List.set_cons_zero, List.set_cons_succ]
          refine till_takeAt 60 (i := 12) (v := .int .i64 y2) rfl rfl (by kernel_rfl) (by kernel_rfl) (by kernel_rfl) (by kernel_rfl) (by kernel_rfl) (fun _ _ _ h => h) (Or.inl ⟨by rfl, fun w' hw' => by obtain ⟨q1, q2, q3⟩ := hw'; go_simp⟩) hSq ?_
          simp only [List.setIfInBounds_toArray, List.set_cons_zero, List.set_cons_succ]
          clear hSq
          refine till_one (i := 13) (by kernel_rfl) rfl rfl (fun K hK => ?_)
          go_simp
          refine hpuq.mono ?_
          rintro e w2 ⟨v2, mm, rfl, him, ho2, hb2⟩
          clear hpuq
          obtain ⟨hf, hgo, hpm, hso, hrow, hqn, fs, fs2, d1, hg2l, hrowlt⟩ := HE.out
          have hb2' : Below wr.heap.size wr w2 := ⟨hb2.os, hb2.tape, hb2.output, hb2.size, hb2.block⟩
          have hfb := hf.below hb2'
          obtain ⟨h1, h2⟩ := hf.setL hb2' (RdI.row ho2) (fun g hg => .inr (ho2.lt g hg).1)
          have hf1 := hfb.has.free 0
          have hf2 := hfb.has.cell 0
          have hf3 := hfb.has.cell 1
          simp at hf2 hf3
          have hf4 : w2.cell? ⟨g2, j * 2 + 1, none⟩ = some (.int .i64 y2) := by
            have := (hb2'.cell (p := ⟨g2, j * 2 + 1, none⟩) hg2l).trans d1
            rw [HY.out] at this
            exact this
          have hqn2 : ∀ q, (Value.slice AQ lc cQ).ownBlock = some q → w.heap.size ≤ q ∧ q ∉ rffoot p v2 (.slice (some ⟨g2, 0, none⟩) N c7) (.slice A8 0 c8) := fun q hq => ⟨(hqn q hq).1, fun hin => by
            rcases List.mem_cons.1 hin with rfl | hin
            · exact (hqn _ hq).2 (by simp [rffoot])
            · rcases mem_rfr.1 hin with h3 | h3 | h3
              · have := (ho2.lt q h3).1
                have := hrowlt q hq
                have : (wr.drewN nq).drew.heap.size = wr.heap.size := rfl
                omega
              · exact (hqn _ hq).2 (List.mem_cons_of_mem _ (mem_rfr.2 (.inr (.inl h3))))
              · exact (hqn _ hq).2 (List.mem_cons_of_mem _ (mem_rfr.2 (.inr (.inr h3))))⟩
          have hrow2 := row_kept (row_kept hrow (Kept.of_below (F := []) hb2') (by simp)) ((Kept.refl [p] w2).setCell (p := ⟨p, 0, none⟩) (by simp) v2) (fun q hq hin => (hqn q hq).2 (by simp at hin; subst hin; simp [rffoot]))
          have hfin : RelR w p vL (.slice (some ⟨g2, 0, none⟩) N c7) (.slice A8 0 c8) L W [] N (N - (j + 1)) (.slice AQ lc cQ) (.int .i64 ((cnt + 1 : Nat) : Int)) (.int .i64 ((j + 1 : Nat) : Int)) (w2.setCell ⟨p, 0, none⟩ v2) := by
            rw [if_pos hdy] at fs
            rw [if_neg (by rw [hdy]; simp), List.append_nil] at fs2
            refine ⟨j + 1, v2, mm, rfl, by have := HJ.out; omega, by rw [fs, List.length_append, HC.out.1]; rfl, h1, hgo.trans h2, ?_, him.sorted hso, by rw [fs2]; exact hrow2, hqn2⟩
            rw [fs, List.map_append, HY.out]
            exact perm_put him.perm hpm
          have HF := Lib.hid hfin
          refine hK _ _ ⟨fun _ => ⟨hf2, hf3, hf4⟩, ?_⟩
          clear hK K
          obtain ⟨A9, c9, hv9⟩ := row_form ho2
          subst hv9
          clear hf hgo hpm hso hrow hqn fs fs2 d1 hrowlt him ho2 hb2 hb2' hfb h1 h2 hf4 hqn2 hrow2 hfin
          refine till_one (i := 14) (by kernel_rfl) rfl rfl (fun K hK => ?_)
          go_simp
          refine hK _ _ ⟨fun h => absurd h (by omega), ?_⟩
          clear hK K
          refine till_one (i := 15) (by kernel_rfl) rfl rfl (fun K hK => ?_)
          go_simp
          refine hK _ _ ⟨fun h => absurd h (by omega), ?_⟩
          clear hK K
          refine till_one (i := 16) (by kernel_rfl) rfl rfl (fun K hK => ?_)
          go_simp
          refine hK _ _ ⟨fun h => absurd h (by omega), till_done (by kernel_rfl) ?_ _⟩
          clear hK K hf1 hf2 hf3
          go_wp2
          go_roundg (N - (j + 1))
          case measure =>
            have := HJ.out
            omega
          case rel => exact HF.out
        · rcases hf.pi with ⟨_, h0⟩ | ⟨b8, o8, c8, hv8, hc8, hb8, hcell8⟩
          · cases h0
          · have e8 : wr.cell? ⟨b8, o8, none⟩ = some (.int .i64 e0) := hcell8 0 _ rfl
            obtain ⟨n8, hn8⟩ : ∃ n8, (e0 :: Pr).length = n8 := ⟨_, rfl⟩
            rw [hn8] at hv8
            have hn80 : (0 : Int) < n8 := by rw [← hn8]; simp only [List.length_cons]; omega
            have hn81 : decide ((0 : Int) < n8) = true := by simpa using hn80
            have hn82 : 0 < n8 := by omega
            have hn83 : decide (0 < n8) = true := by simpa using hn82
            subst hv8
            by_cases hdu : y1 ≤ e0
            · have hdy : rdue (e0 :: Pr) W[j] = true := by rw [HY.out]; simpa [rdue] using hdu
              have hcmp : decide (e0 < y1) = false := by simp; omega
              have HDU := Lib.hid hdu
              clear hf hgo hpm hso hrow hqn fs fs2 hrowlt hy hwt hcnt hlc hL' c0 d1 hjg hcell8 hn8 hdu
              go_wp2_with fail
              go_quiet (fail)
              go_wp2_with fail
              have hpuq := hpu nq
              have hSq := hS nq
              clear hpu hS
              refine wp_region_tills (fun w' => w'.cell? ⟨p, 0, none⟩ = some (.slice A6 n6 c6) ∧ w'.cell? ⟨p, 1, none⟩ = some (.slice (some ⟨g2, 0, none⟩) N c7) ∧ w'.cell? ⟨g2, j * 2 + 1, none⟩ = some (.int .i64 y2)) 14 (by kernel_rfl) ?_
              refine till_takeAt 48 (i := 0) (v := .pointer (some ⟨p, 0, none⟩)) rfl rfl (by kernel_rfl) (by kernel_rfl) (by kernel_rfl) (by kernel_rfl) (by kernel_rfl) (fun _ _ _ h => h) (Or.inl ⟨by rfl, fun w' hw' => by obtain ⟨q1, q2, q3⟩ := hw'; go_simp⟩) hSq ?_
              simp only [List.setIfInBounds_toArray, List.set_cons_zero, List.set_cons_succ]
              refine till_takeAt 49 (i := 1) (v := .pointer (some ⟨p, 0, none⟩)) rfl rfl (by kernel_rfl) (by kernel_rfl) (by kernel_rfl) (by kernel_rfl) (by kernel_rfl) (fun _ _ _ h => h) (Or.inl ⟨by rfl, fun w' hw' => by obtain ⟨q1, q2, q3⟩ := hw'; go_simp⟩) hSq ?_
              simp only [List.setIfInBounds_toArray, List.set_cons_zero, List.set_cons_succ]
              refine till_takeAt 50 (i := 2) (v := .pointer (some ⟨p, 0, none⟩)) rfl rfl (by kernel_rfl) (by kernel_rfl) (by kernel_rfl) (by kernel_rfl) (by kernel_rfl) (fun _ _ _ h => h) (Or.inl ⟨by rfl, fun w' hw' => by obtain ⟨q1, q2, q3⟩ := hw'; go_simp⟩) hSq ?_
              simp only [List.setIfInBounds_toArray, List.set_cons_zero, List.set_cons_succ]
              refine till_takeAt 51 (i := 3) (v := .pointer (some ⟨p, 0, none⟩)) rfl rfl (by kernel_rfl) (by kernel_rfl) (by kernel_rfl) (by kernel_rfl) (by kernel_rfl) (fun _ _ _ h => h) (Or.inl ⟨by rfl, fun w' hw' => by obtain ⟨q1, q2, q3⟩ := hw'; go_simp⟩) hSq ?_
              simp only [List.setIfInBounds_toArray, List.set_cons_zero, List.set_cons_succ]
              refine till_takeAt 52 (i := 4) (v := .slice A6 n6 c6) rfl rfl (by kernel_rfl) (by kernel_rfl) (by kernel_rfl) (by kernel_rfl) (by kernel_rfl) (fun _ _ _ h => h) (Or.inl ⟨by rfl, fun w' hw' => by obtain ⟨q1, q2, q3⟩ := hw'; go_simp⟩) hSq ?_
              simp only [List.setIfInBounds_toArray, List.set_cons_zero, List.set_cons_succ]
              refine till_takeAt 53 (i := 5) (v := .pointer (some ⟨p, 0, none⟩)) rfl rfl (by kernel_rfl) (by kernel_rfl) (by kernel_rfl) (by kernel_rfl) (by kernel_rfl) (fun _ _ _ h => h) (Or.inl ⟨by rfl, fun w' hw' => by obtain ⟨q1, q2, q3⟩ := hw'; go_simp⟩) hSq ?_
              simp only [List.setIfInBounds_toArray, List.set_cons_zero, List.set_cons_succ]
              refine till_takeAt 54 (i := 6) (v := .pointer (some ⟨p, 0, none⟩)) rfl rfl (by kernel_rfl) (by kernel_rfl) (by kernel_rfl) (by kernel_rfl) (by kernel_rfl) (fun _ _ _ h => h) (Or.inl ⟨by rfl, fun w' hw' => by obtain ⟨q1, q2, q3⟩ := hw'; go_simp⟩) hSq ?_
              simp only [List.setIfInBounds_toArray, List.set_cons_zero, List.set_cons_succ]
              refine till_takeAt 55 (i := 7) (v := .pointer (some ⟨p, 1, none⟩)) rfl rfl (by kernel_rfl) (by kernel_rfl) (by kernel_rfl) (by kernel_rfl) (by kernel_rfl) (fun _ _ _ h => h) (Or.inl ⟨by rfl, fun w' hw' => by obtain ⟨q1, q2, q3⟩ := hw'; go_simp⟩) hSq ?_
              simp only [List.setIfInBounds_toArray, List.set_cons_zero, List.set_cons_succ]
              refine till_takeAt 56 (i := 8) (v := .slice (some ⟨g2, 0, none⟩) N c7) rfl rfl (by kernel_rfl) (by kernel_rfl) (by kernel_rfl) (by kernel_rfl) (by kernel_rfl) (fun _ _ _ h => h) (Or.inl ⟨by rfl, fun w' hw' => by obtain ⟨q1, q2, q3⟩ := hw'; go_simp⟩) hSq ?_
              simp only [List.setIfInBounds_toArray, List.set_cons_zero, List.set_cons_succ]
              refine till_takeAt 57 (i := 9) (v := .int .i64 j) rfl rfl (by kernel_rfl) (by kernel_rfl) (by kernel_rfl) (by kernel_rfl) (by kernel_rfl) (fun _ _ _ h => h) (Or.inl ⟨by rfl, fun w' hw' => by obtain ⟨q1, q2, q3⟩ := hw'; go_simp⟩) hSq ?_
              simp only [List.setIfInBounds_toArray, List.set_cons_zero, List.set_cons_succ]
              refine till_takeAt 58 (i := 10) (v := .pointer (some ⟨g2, j * 2, none⟩)) rfl rfl (by kernel_rfl) (by kernel_rfl) (by kernel_rfl) (by kernel_rfl) (by kernel_rfl) (fun _ _ _ h => h) (Or.inl ⟨by rfl, fun w' hw' => by obtain ⟨q1, q2, q3⟩ := hw'; go_simp⟩) hSq ?_
              simp only [List.setIfInBounds_toArray, List.set_cons_zero, List.set_cons_succ]
              refine till_takeAt 59 (i := 11) (v := .pointer (some ⟨g2, j * 2 + 1, none⟩)) rfl rfl (by kernel_rfl) (by kernel_rfl) (by kernel_rfl) (by kernel_rfl) (by kernel_rfl) (fun _ _ _ h => h) (Or.inl ⟨by rfl, fun w' hw' => by obtain ⟨q1, q2, q3⟩ := hw'; go_simp⟩) hSq ?_
              simp only [List.setIfInBounds_toArray, List.set_cons_zero, List.set_cons_succ]
              refine till_takeAt 60 (i := 12) (v := .int .i64 y2) rfl rfl (by kernel_rfl) (by kernel_rfl) (by kernel_rfl) (by kernel_rfl) (by kernel_rfl) (fun _ _ _ h => h) (Or.inl ⟨by rfl, fun w' hw' => by obtain ⟨q1, q2, q3⟩ := hw'; go_simp⟩) hSq ?_
              simp only [List.setIfInBounds_toArray, List.set_cons_zero, List.set_cons_succ]
              clear hSq
              refine till_one (i := 13) (by kernel_rfl) rfl rfl (fun K hK => ?_)
              go_simp
              refine hpuq.mono ?_
              rintro e w2 ⟨v2, mm, rfl, him, ho2, hb2⟩
              clear hpuq
              obtain ⟨hf, hgo, hpm, hso, hrow, hqn, fs, fs2, d1, hg2l, hrowlt⟩ := HE.out
              have hb2' : Below wr.heap.size wr w2 := ⟨hb2.os, hb2.tape, hb2.output, hb2.size, hb2.block⟩
              have hfb := hf.below hb2'
              obtain ⟨h1, h2⟩ := hf.setL hb2' (RdI.row ho2) (fun g hg => .inr (ho2.lt g hg).1)
              have hf1 := hfb.has.free 0
              have hf2 := hfb.has.cell 0
              have hf3 := hfb.has.cell 1
              simp at hf2 hf3
              have hf4 : w2.cell? ⟨g2, j * 2 + 1, none⟩ = some (.int .i64 y2) := by
                have := (hb2'.cell (p := ⟨g2, j * 2 + 1, none⟩) hg2l).trans d1
                rw [HY.out] at this
                exact this
              have hqn2 : ∀ q, (Value.slice AQ lc cQ).ownBlock = some q → w.heap.size ≤ q ∧ q ∉ rffoot p v2 (.slice (some ⟨g2, 0, none⟩) N c7) (.slice (some ⟨b8, o8, none⟩) n8 c8) := fun q hq => ⟨(hqn q hq).1, fun hin => by
                rcases List.mem_cons.1 hin with rfl | hin
                · exact (hqn _ hq).2 (by simp [rffoot])
                · rcases mem_rfr.1 hin with h3 | h3 | h3
                  · have := (ho2.lt q h3).1
                    have := hrowlt q hq
                    have : (wr.drewN nq).drew.heap.size = wr.heap.size := rfl
                    omega
                  · exact (hqn _ hq).2 (List.mem_cons_of_mem _ (mem_rfr.2 (.inr (.inl h3))))
                  · exact (hqn _ hq).2 (List.mem_cons_of_mem _ (mem_rfr.2 (.inr (.inr h3))))⟩
              have hrow2 := row_kept (row_kept hrow (Kept.of_below (F := []) hb2') (by simp)) ((Kept.refl [p] w2).setCell (p := ⟨p, 0, none⟩) (by simp) v2) (fun q hq hin => (hqn q hq).2 (by simp at hin; subst hin; simp [rffoot]))
              have hfin : RelR w p vL (.slice (some ⟨g2, 0, none⟩) N c7) (.slice (some ⟨b8, o8, none⟩) n8 c8) L W (e0 :: Pr) N (N - (j + 1)) (.slice AQ lc cQ) (.int .i64 ((cnt + 1 : Nat) : Int)) (.int .i64 ((j + 1 : Nat) : Int)) (w2.setCell ⟨p, 0, none⟩ v2) := by
                rw [if_pos hdy] at fs
                rw [if_neg (by rw [hdy]; simp), List.append_nil] at fs2
                refine ⟨j + 1, v2, mm, rfl, by have := HJ.out; omega, by rw [fs, List.length_append, HC.out.1]; rfl, h1, hgo.trans h2, ?_, him.sorted hso, by rw [fs2]; exact hrow2, hqn2⟩
                rw [fs, List.map_append, HY.out]
                exact perm_put him.perm hpm
              have HF := Lib.hid hfin
              refine hK _ _ ⟨fun _ => ⟨hf2, hf3, hf4⟩, ?_⟩
              clear hK K
              obtain ⟨A9, c9, hv9⟩ := row_form ho2
              subst hv9
              clear hf hgo hpm hso hrow hqn fs fs2 d1 hrowlt him ho2 hb2 hb2' hfb h1 h2 hf4 hqn2 hrow2 hfin
              refine till_one (i := 14) (by kernel_rfl) rfl rfl (fun K hK => ?_)
              go_simp
              refine hK _ _ ⟨fun h => absurd h (by omega), ?_⟩
              clear hK K
              refine till_one (i := 15) (by kernel_rfl) rfl rfl (fun K hK => ?_)
              go_simp
              refine hK _ _ ⟨fun h => absurd h (by omega), ?_⟩
              clear hK K
              refine till_one (i := 16) (by kernel_rfl) rfl rfl (fun K hK => ?_)
              go_simp
              refine hK _ _ ⟨fun h => absurd h (by omega), till_done (by kernel_rfl) ?_ _⟩
              clear hK K hf1 hf2 hf3
              go_wp2
              go_roundg (N - (j + 1))
              case measure =>
                have := HJ.out
                omega
              case rel => exact HF.out
            · have hdy : rdue (e0 :: Pr) W[j] = false := by rw [HY.out]; simpa [rdue] using hdu
              have hcmp : decide (e0 < y1) = true := by simp; omega
              have HDU := Lib.hid hdu
              clear hf hgo hpm hso hrow hqn fs fs2 hrowlt hy hwt hcnt hlc hL' c0 hjg hcell8 hn8 hdu hpu hS
              go_wp2_with fail
              go_quiet (fail)
              obtain ⟨hf, hgo, hpm, hso, hrow, hqn, fs, fs2, _, hg2l, hrowlt⟩ := HE.out
              have hbn : Below wr.heap.size wr ((wr.drewN nq).alloc (.cells #[.int .i64 y1, .int .i64 y2] 90)) := ⟨rfl, rfl, rfl, by show _ ≤ ((wr.drewN nq).alloc _).heap.size; simp [World.drewN], fun k hk => Below.heap_alloc (wr.drewN nq) _ k hk⟩
              have hra := row_kept hrow (Kept.of_below (F := []) hbn) (by simp)
              rw [HC.out.2] at hra
              have hnews : ∀ q u, ([.int .i64 y1, .int .i64 y2] : List Value)[q]? = some u → ((wr.drewN nq).alloc (.cells #[.int .i64 y1, .int .i64 y2] 90)).cell? ((⟨wr.heap.size, 0, none⟩ : Addr).add q) = some u := by
                intro q u hu
                rw [Go.WideShapes.add_plain, Nat.zero_add]
                exact ((Has.made (wr.drewN nq) 90 #[.int .i64 y1, .int .i64 y2]).cell q).trans (by simpa using hu)
              obtain ⟨i0, hi0, hzz0, hzz1, hzz2⟩ := info_parts Tryz.infoWait
              have hrf := hf.below hbn
              have hfin : ∀ q2 w2, w2.ownsRow 0 90 2 q2 (lc + 1) (wlist ((W.take j).filter (fun x => !rdue (e0 :: Pr) x)) ++ [.int .i64 y1, .int .i64 y2]) → Grown ((wr.drewN nq).alloc (.cells #[.int .i64 y1, .int .i64 y2] 90)) (.slice AQ lc cQ) q2 w2 →
                  RelR w p vL (.slice (some ⟨g2, 0, none⟩) N c7) (.slice (some ⟨b8, o8, none⟩) n8 c8) L W (e0 :: Pr) N (N - (j + 1)) q2 (.int .i64 (cnt : Nat)) (.int .i64 ((j + 1 : Nat) : Int)) w2 := by
                intro q2 w2 ho hg
                rw [if_neg (by rw [hdy]; simp), List.append_nil] at fs
                rw [if_pos (by rw [hdy]; rfl)] at fs2
                have hk := hg.1.1
                refine ⟨j + 1, _, L', rfl, by have := HJ.out; omega, by rw [fs, HC.out.1], hrf.kept hk (fun g hg hin => (hqn g (by simpa using hin)).2 hg), ⟨?_, fun g hg => hgo.2 g hg⟩, by rw [fs]; exact hpm, hso, ?_, fun q hq => ?_⟩
                · exact (hgo.1.trans (Kept.of_below (F := _) hbn)).then_ hk (fun i hi => .inr (hqn i (by simpa using hi)).1)
                · rw [fs2, List.length_append, HC.out.2, wlist_append, HY.out]
                  exact ho
                · rcases hg.1.2 q (by simp [hq]) with h | h
                  · exact hqn q (by simpa using h)
                  · have h1 := hbn.size
                    have h2 := hgo.1.size
                    refine ⟨by omega, fun hin => ?_⟩
                    have := hf.lt q hin
                    omega
              have HF := Lib.hid hfin
              clear hf hgo hpm hso hrow hqn fs fs2 hrowlt hbn hrf hfin
              go_wp2_with (at_builtin; refine wpList_append_keeps rfl _ _ 29 90 i0 _ 2 16 Tryz.underlying29 hi0 hzz0 hzz1 hzz2 rfl (by decide) rfl _ (.slice AQ lc cQ) lc _ rfl hra ⟨wr.heap.size, 0, none⟩ 1 1 rfl [.int .i64 y1, .int .i64 y2] rfl hnews (wcells_one (y1, y2)) (by omega) (by unfold maxLen; omega) (by omega) ?_; intro q2 w2 hown2 hgn2)
              go_roundg (N - (j + 1))
              case measure =>
                have := HJ.out
                omega
              case rel => exact HF.out q2 w2 hown2 hgn2
    · obtain rfl : j = N := by omega
      have hfull : W.take j = W := List.take_of_length_le (by rw [HN.out.1]; exact Nat.le_refl _)
      rw [hfull] at hpm hrow hln hlq hvQ ⊢
      obtain ⟨cnt, hcnt⟩ : ∃ cnt, (W.filter (rdue P)).length = cnt := ⟨_, rfl⟩
      obtain ⟨lc, hlc⟩ : ∃ lc, (W.filter (fun x => !rdue P x)).length = lc := ⟨_, rfl⟩
      rw [hcnt]
      rw [hlc] at hvQ
      have hf1 := hf.has.free 1
      have hfin : REnd w p vL (.slice A7 j c7) vP L' (W.filter (fun x => !rdue P x)) P (wr.setCell ⟨p, 1, none⟩ u3) := by
        have hne : ∀ g ∈ rfr u u3 vP, g ≠ p := fun g hg => by
          rcases mem_rfr.1 hg with h1 | h1 | h1
          · exact hf.ne g (mem_rfr.2 (.inl h1))
          · exact fun h2 => (hqn g h1).2 (by rw [h2]; simp [rffoot])
          · exact hf.ne g (mem_rfr.2 (.inr (.inr h1)))
        have hk : Kept [p] wr (wr.setCell ⟨p, 1, none⟩ u3) := (Kept.refl _ _).setCell (p := ⟨p, 1, none⟩) (by simp) _
        refine ⟨u, u3, vP, ⟨by simpa using hf.has.put 1 u3, hf.l.kept hk (fun g hg hin => hne g (mem_rfr.2 (.inl hg)) (by simpa using hin)), row_kept hrow hk (fun g hg hin => hne g (mem_rfr.2 (.inr (.inl hg))) (by simpa using hin)), hf.pi.kept hk (fun g hg hin => hne g (mem_rfr.2 (.inr (.inr hg))) (by simpa using hin)), hne⟩, ?_, ?_⟩
        · exact hgo.1.setCell (p := ⟨p, 1, none⟩) (.inl (by simp [rffoot])) _
        · intro g hg
          rcases List.mem_cons.1 hg with rfl | hg
          · exact .inl (by simp [rffoot])
          · rcases mem_rfr.1 hg with h1 | h1 | h1
            · exact hgo.2 g (List.mem_cons_of_mem _ (mem_rfr.2 (.inl h1)))
            · exact .inr (hqn g h1).1
            · exact hgo.2 g (List.mem_cons_of_mem _ (mem_rfr.2 (.inr (.inr h1))))
      have HF := Lib.hid (And.intro hfin (And.intro hpm (And.intro hso hcnt)))
      subst hvQ
      clear hf hgo hpm hso hrow hqn hfin hfull hln hlq hcnt hlc c0 c2 hlt hjg
      go_wp2_with fail
      go_ret
      exact ⟨by rw [HF.out.2.2.2]; rfl, L', HF.out.1, HF.out.2.1, HF.out.2.2.1⟩
end
end Go.Proofs.YtjimjemogbphaaaGreat
