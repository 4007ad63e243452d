/-
  BranchReplaces (P902): a child in whose place others are put is gone, the others stay; put back again all is as it was. For every children, every place and every other children.
-/
import Derived.Test.YtpfifmjcmpankaaYA9
import Derived.Test.YtpfifmjcmpankaaYB1
import Derived.Test.YtpfifmjcmpankaaYB2
import Derived.Test.YtpfifmjcmpankaaFrameC
import Derived.Laws.Cover1
namespace Go.Proofs.Ytpfifmjcmpankaa.BR.branchReplaces
open Go.ChangeShapes Go.WideShapes Go.ChangeAt Go.RowKit

theorem replL_size {l x : List Chd} {i : Int} {B : Nat} (hl : ∀ y ∈ l, y.key.size ≤ B) (hx : ∀ y ∈ x, y.key.size ≤ B) : ∀ y ∈ replL l i x, y.key.size ≤ B := by
  intro y hy
  unfold replL at hy
  split at hy
  · have hraw : ∀ z ∈ rawL l i.toNat x, z.key.size ≤ B := by
      intro z hz
      unfold rawL at hz
      rcases List.mem_append.1 hz with h | h
      · exact hl z (List.mem_of_mem_take h)
      · rcases List.mem_append.1 h with h | h
        · exact hx z h
        · exact hl z (List.mem_of_mem_drop h)
    cases hr : rawL l i.toNat x with
    | nil => rw [hr] at hy; simp [first] at hy
    | cons a r =>
      rw [hr] at hy hraw
      rcases List.mem_cons.1 hy with rfl | h
      · exact Nat.zero_le _
      · exact hraw y (List.mem_cons_of_mem _ h)
  · exact hl y hy

/-- The child a stands at place k for the child e. -/
def For (a e : Chd) (k : Nat) : Prop := a.page = e.page ∧ (k ≠ 0 → a.key = e.key) ∧ (k = 0 → a.key = ⟨#[]⟩)
theorem first_for {D : List Chd} {k : Nat} (h : k < D.length) : For ((first D)[k]'(by rw [first_len]; exact h)) D[k] k := by
  rw [first_at h]
  by_cases h0 : k = 0
  · subst h0
    rw [if_pos rfl]
    exact ⟨rfl, fun h => absurd rfl h, fun _ => rfl⟩
  · rw [if_neg h0]
    exact ⟨rfl, fun _ => rfl, fun h => absurd h h0⟩
structure ReplAt (l x M : List Chd) (n : Nat) : Prop where
  len : M.length = l.length - 1 + x.length
  low : ∀ k (hk : k < M.length) (_ : k < n) (hl : k < l.length), For M[k] l[k] k
  mid : ∀ k (hk : k < M.length) (_ : n ≤ k) (_ : k < n + x.length) (hx : k - n < x.length), For M[k] x[k - n] k
  high : ∀ k (hk : k < M.length) (_ : n + x.length ≤ k) (hl : k - x.length + 1 < l.length), For M[k] l[k - x.length + 1] k
theorem replAt {l x : List Chd} {n : Nat} (h : n < l.length) : ReplAt l x (replL l n x) n := by
  have e1 := replL_in h x
  have hlen := rawL_len h x
  have hl : (replL l n x).length = l.length - 1 + x.length := by rw [e1, first_len, hlen]
  refine ⟨hl, fun k hk h1 hl => ?_, fun k hk h1 h2 hx => ?_, fun k hk h1 hl => ?_⟩
  · have h3 := first_for (D := rawL l n x) (k := k) (by omega)
    rw [rawL_low h x h1] at h3
    simpa only [e1] using h3
  · have h3 := first_for (D := rawL l n x) (k := k) (by omega)
    rw [rawL_mid h x h1 h2] at h3
    simpa only [e1] using h3
  · have h3 := first_for (D := rawL l n x) (k := k) (by omega)
    rw [rawL_high h x h1 (by omega)] at h3
    simpa only [e1] using h3

set_option maxRecDepth 100000 in
set_option maxHeartbeats 4000000 in
theorem walk (w : World) (v : Value) (l : List Chd) (hr : ReadsIt w w.heap.size v l) (hok : ∀ x ∈ l, x.ok) (i : Int) (hi : IsInt i) (vx : Value) (x : List Chd) (hrx : ReadsIt w w.heap.size vx x) (hokx : ∀ y ∈ x, y.ok) :
    Calls Try.prog 6 #[v, .int .i64 i, vx] w fun e w' => e = .returned (.bool true) ∧ Below w.heap.size w w' := by
  have hsm := small_any v l w hr (fun y hy => (hok y hy).1)
  have hsx := fun W (hb : Below w.heap.size w W) => small_any vx x W (hrx.grow hb hb.size) (fun y hy => (hokx y hy).1)
  obtain ⟨A, c, rfl⟩ := hr.form
  obtain ⟨Ax, cx, rfl⟩ := hrx.form
  have HAL := Lib.hid (fun W => alive9_any W)
  have HSX := Lib.hid hsx
  have HR := Lib.hid (And.intro hr (And.intro hok (And.intro hrx (And.intro hokx hi))))
  clear hsx hr hok hrx hokx hi
  go_enter Try.func6, Try.ntmps6
  go_wp2_with fail
  refine hsm.mono ?_
  rintro e w1 ⟨b, rfl, hsb, hb1⟩
  clear hsm
  cases b
  · have HBB := Lib.hid hb1
    clear HSX hb1 hsb
    go_wp2_with fail
    refine (HAL.out _).mono ?_
    rintro e wa ⟨rfl, hba⟩
    have HZ := Lib.hid (HBB.out.trans (hba.mono HBB.out.size))
    clear hba
    go_wp2_with fail
    go_ret
    exact ⟨rfl, HZ.out⟩
  · obtain ⟨hl100, hl9⟩ := hsb rfl
    clear hsb
    go_wp2_with fail
    refine (HSX.out _ hb1).mono ?_
    rintro e w2 ⟨b, rfl, hsb, hb2⟩
    have HBB := Lib.hid (hb1.trans (hb2.mono hb1.size))
    clear hb1 hb2 HSX
    cases b
    · clear hsb
      go_wp2_with fail
      refine (HAL.out _).mono ?_
      rintro e wa ⟨rfl, hba⟩
      have HZ := Lib.hid (HBB.out.trans (hba.mono HBB.out.size))
      clear hba
      go_wp2_with fail
      go_ret
      exact ⟨rfl, HZ.out⟩
    · obtain ⟨hx100, hx9⟩ := hsb rfl
      clear hsb
      by_cases hin : 0 ≤ i ∧ i < l.length
      · obtain ⟨hi0, hil⟩ := hin
        obtain ⟨n, rfl⟩ : ∃ n : Nat, i = n := ⟨i.toNat, by omega⟩
        have hnl : n < l.length := by omega
        have hpos : 0 < l.length := by omega
        obtain ⟨hr, hok, hrx, hokx, hi⟩ := HR.out
        have hr2 := hr.grow HBB.out HBB.out.size
        have hlc : ∀ m (hm : m < l.length) W, Below w.heap.size w W → ∃ b off, A = some ⟨b, off, none⟩ ∧ W.cell? ⟨b, off + m * 2, none⟩ = some (.string l[m].key) ∧ W.cell? ⟨b, off + m * 2 + 1, none⟩ = some (.int .i64 l[m].page) := fun m hm W hW => by
          obtain ⟨A', c', hv, _, _, _, hc⟩ := hr
          cases hv
          obtain ⟨b, off, hA, hbb, hcell⟩ := hc (by omega)
          exact ⟨b, off, hA, (hcell.below hW hbb) m hm⟩
        have hxc : ∀ m (hm : m < x.length) W, Below w.heap.size w W → ∃ b off, Ax = some ⟨b, off, none⟩ ∧ W.cell? ⟨b, off + m * 2, none⟩ = some (.string x[m].key) ∧ W.cell? ⟨b, off + m * 2 + 1, none⟩ = some (.int .i64 x[m].page) := fun m hm W hW => by
          obtain ⟨A', c', hv, _, _, _, hc⟩ := hrx
          cases hv
          obtain ⟨b, off, hA, hbb, hcell⟩ := hc (by omega)
          exact ⟨b, off, hA, (hcell.below hW hbb) m hm⟩
        obtain ⟨b0, o0, hA0, q0, _⟩ := hlc 0 hpos w2 HBB.out
        subst hA0
        simp only [Nat.zero_mul, Nat.add_zero] at q0
        have HLC := Lib.hid (And.intro hlc hxc)
        have hil' : (n : Int) < l.length := hil
        have hposI : (0 : Int) < l.length := by omega
        by_cases hk0 : l[0].key = ⟨#[]⟩
        · rw [hk0] at q0
          have hzl : ∀ y ∈ l, y.key.size ≤ 9000 := fun y hy => Nat.le_trans (sizesI_mem hy) hl9
          have hzx : ∀ y ∈ x, y.key.size ≤ 9000 := fun y hy => Nat.le_trans (sizesI_mem hy) hx9
          have hP := replace_any (.slice (some ⟨b0, o0, none⟩) l.length c) (.slice Ax x.length cx) l x n w2 hr2 (hrx.grow HBB.out HBB.out.size) hi (by omega) (by omega) (fun y hy => by have := hzl y hy; omega) (fun y hy => by have := hzx y hy; omega)
          have hat := replAt (x := x) hnl
          have hzm := replL_size (i := (n : Int)) hzl hzx
          have HK := Lib.hid (And.intro hk0 (And.intro hzl (And.intro hzx (And.intro hat hzm))))
          have hlenI : ((replL l n x).length : Int) = (l.length : Int) - 1 + x.length := by rw [hat.len]; omega
          generalize hM : replL l n x = M at *
          have HM := Lib.hid hM
          clear hr hok hrx hokx hi hr2 hlc hxc hk0 hzl hzx hat hzm hM hi0 hil
          obtain ⟨nM, hnM⟩ : ∃ nM, M.length = nM := ⟨_, rfl⟩
          have HN := Lib.hid hnM
          rw [hnM] at hP hlenI
          have hnM1 : (nM : Int) ≤ 200 := by omega
          have hqe : ((nM : Int) != (l.length : Int) - 1 + (x.length : Int)) = false := by rw [hlenI]; simp
          go_wp2_with fail
          refine hP.mono ?_
          rintro e w7 ⟨v7, rfl, hown7, hb7⟩
          have hform : ∃ A7 c7, v7 = .slice A7 nM c7 ∧ (0 < nM → ∃ g, A7 = some ⟨g, 0, none⟩) := by
            rcases hown7.2 with ⟨rfl, h⟩ | ⟨g, cap, cur, rfl, _⟩
            · exact ⟨none, 0, by rw [h], fun h2 => by omega⟩
            · exact ⟨some ⟨g, 0, none⟩, cap, rfl, fun _ => ⟨g, rfl⟩⟩
          obtain ⟨A7, c7, rfl, hg7⟩ := hform
          have hb27 : Below w.heap.size w w7 := HBB.out.trans (hb7.mono HBB.out.size)
          have H7 := Lib.hid (And.intro hown7 (And.intro hb27 hg7))
          clear hP hown7 hb7 hb27 hg7 q0 hnM
          go_wp2_with fail
          go_loopw [8] (fun iv wr => ∃ k : Nat, k ≤ nM ∧ iv = .int .i64 k ∧ Below w7.heap.size w7 wr) (fun iv _ => nM - (RowKit.intOf iv).toNat)
          case atStart => exact ⟨0, Nat.zero_le _, rfl, Below.refl _ _⟩
          case round =>
            obtain ⟨k, hk, rfl, hbl⟩ := hrel
            have hwr := H7.out.2.1.trans (hbl.mono H7.out.2.1.size)
            by_cases hlt : k < nM
            · obtain ⟨g7, hg7⟩ := H7.out.2.2 (by omega)
              subst hg7
              have hkM : k < M.length := by rw [HN.out]; exact hlt
              have hownr := row_kept (F := []) H7.out.1 (Kept.of_below hbl) (fun _ _ h => by simp at h)
              have m0 : wr.cell? ⟨g7, k * 2, none⟩ = some (.string M[k].key) := (hownr.cellAt (k * 2) (by have := HN.out; omega)).trans (ilist_at hkM 0 (by omega))
              have m1 : wr.cell? ⟨g7, k * 2 + 1, none⟩ = some (.int .i64 M[k].page) := (hownr.cellAt (k * 2 + 1) (by have := HN.out; omega)).trans (ilist_at hkM 1 (by omega))
              have hgr := (hownr.lt g7 rfl).2
              have hkI : (k : Int) < nM := by omega
              have hk00 : (0 : Int) ≤ k := by omega
              have HAT := Lib.hid HK.out.2.2.2.1
              generalize hy : M[k] = y at *
              have HY := Lib.hid hy
              have HW := Lib.hid (And.intro hbl hwr)
              clear hy hownr hbl
              by_cases hlow : k < n
              · have hkl : k < l.length := by omega
                have hfor := HAT.out.low k hkM hlow hkl
                have hcl := HLC.out.1 k hkl wr hwr
                rw [HY.out] at hfor
                generalize hz : l[k] = z at *
                obtain ⟨b1, o1, hA1, c0, c1⟩ := hcl
                cases hA1
                have HZZ := Lib.hid hz
                clear hz hwr
                have hbb0 := World.block_lt_of_cell? wr _ c0
                have hz0 : Below wr.heap.size wr (wr.alloc (.cells #[.string ⟨#[]⟩, .int .i64 0] 24)) := (Below.refl _ _).alloc (Nat.le_refl _) _
                have d0 := (hz0.cell (p := ⟨b0, o0 + k * 2, none⟩) hbb0).trans c0
                have d1 := (hz0.cell (p := ⟨b0, o0 + k * 2 + 1, none⟩) hbb0).trans c1
                clear hz0 hbb0
                have hlowI : (k : Int) < n := by omega
                have hklI : (k : Int) < l.length := by omega
                obtain ⟨hp, hke, hze⟩ := hfor
                rw [hp] at m1
                by_cases hk0 : k = 0
                · rw [hze hk0] at m0
                  have hq1 : ¬ (0 : Int) < k := by omega
                  have hq2 : ¬ 0 < k := by omega
                  have hq3 : ((k : Int) == 0) = true := by rw [beq_iff_eq]; omega
                  have hk0H := Lib.hid hk0
                  clear hk0 hp hke hze
                  go_wp2_with fail
                  obtain ⟨W0, hW0⟩ : ∃ W0, W0 = wr.alloc (iobj z) := ⟨_, rfl⟩
                  have hbx := held_box hW0
                  have h0 : Below wr.heap.size wr W0 := by subst hW0; exact (Below.refl _ _).alloc (Nat.le_refl _) _
                  obtain ⟨f0, f1⟩ := hbx W0 (Below.refl _ _)
                  have p0 := (h0.cell (p := ⟨g7, k * 2, none⟩) hgr).trans m0
                  have p1 := (h0.cell (p := ⟨g7, k * 2 + 1, none⟩) hgr).trans m1
                  rw [← hW0]
                  have HB := Lib.hid h0
                  clear hW0 hbx h0
                  have g0 := cell_gw f0
                  have g1 := cell_gw f1
                  have g2 := cell_gw p0
                  have g3 := cell_gw p1
                  refine wp_region_gw (by kernel_rfl) (by kernel_rfl) ?_
                  repeat (refine wq_step (fun K hK => ?_); go_simp; (refine hK _ ?_; clear hK K))
                  refine wq_nil ?_
                  intro w9 hw9
                  replace hw9 := gw_to hw9
                  clear g0 g1 g2 g3 f0 f1 p0 p1 d0 d1 m0 m1 c0 c1
                  go_wp2_with fail
                  go_roundw
                  case rel => exact ⟨k + 1, by omega, by go_num, HW.out.1.trans ((HB.out.trans (hw9.mono HB.out.size)).mono HW.out.1.size)⟩
                  case measure => simp [RowKit.intOf]; omega
                · rw [hke hk0] at m0
                  have hq1 : (0 : Int) < k := by omega
                  have hq2 : 0 < k := by omega
                  have hq3 : ((k : Int) == 0) = false := by rw [beq_eq_false_iff_ne]; omega
                  clear hk0 hp hke hze
                  go_wp2_with fail
                  obtain ⟨W0, hW0⟩ : ∃ W0, W0 = wr.alloc (iobj z) := ⟨_, rfl⟩
                  have hbx := held_box hW0
                  have h0 : Below wr.heap.size wr W0 := by subst hW0; exact (Below.refl _ _).alloc (Nat.le_refl _) _
                  obtain ⟨f0, f1⟩ := hbx W0 (Below.refl _ _)
                  have p0 := (h0.cell (p := ⟨g7, k * 2, none⟩) hgr).trans m0
                  have p1 := (h0.cell (p := ⟨g7, k * 2 + 1, none⟩) hgr).trans m1
                  rw [← hW0]
                  have HB := Lib.hid h0
                  clear hW0 hbx h0
                  have g0 := cell_gw f0
                  have g1 := cell_gw f1
                  have g2 := cell_gw p0
                  have g3 := cell_gw p1
                  refine wp_region_gw (by kernel_rfl) (by kernel_rfl) ?_
                  repeat (refine wq_step (fun K hK => ?_); go_simp; (refine hK _ ?_; clear hK K))
                  refine wq_nil ?_
                  intro w9 hw9
                  replace hw9 := gw_to hw9
                  clear g0 g1 g2 g3 f0 f1 p0 p1 d0 d1 m0 m1 c0 c1
                  go_wp2_with fail
                  go_roundw
                  case rel => exact ⟨k + 1, by omega, by go_num, HW.out.1.trans ((HB.out.trans (hw9.mono HB.out.size)).mono HW.out.1.size)⟩
                  case measure => simp [RowKit.intOf]; omega
              · by_cases hmid : k < n + x.length
                · have hkl : k - n < x.length := by omega
                  have hfor := HAT.out.mid k hkM (by omega) hmid hkl
                  have hcl := HLC.out.2 (k - n) hkl wr hwr
                  rw [HY.out] at hfor
                  generalize hz : x[k - n] = z at *
                  obtain ⟨b1, o1, hA1, c0, c1⟩ := hcl
                  subst hA1
                  have HZZ := Lib.hid hz
                  clear hz hwr
                  have hbb0 := World.block_lt_of_cell? wr _ c0
                  have hz0 : Below wr.heap.size wr (wr.alloc (.cells #[.string ⟨#[]⟩, .int .i64 0] 24)) := (Below.refl _ _).alloc (Nat.le_refl _) _
                  have d0 := (hz0.cell (p := ⟨b1, o1 + (k - n) * 2, none⟩) hbb0).trans c0
                  have d1 := (hz0.cell (p := ⟨b1, o1 + (k - n) * 2 + 1, none⟩) hbb0).trans c1
                  clear hz0 hbb0
                  have hlowI : ¬ (k : Int) < n := by omega
                  have hmidI : (k : Int) < (n : Int) + x.length := by omega
                  have hxi : (0 : Int) ≤ (k : Int) - n := by omega
                  have hxj : (k : Int) - n < x.length := by omega
                  have hxn : ((k : Int) - n).toNat = k - n := by omega
                  have hnI : (n : Int) ≤ 100 := by omega
                  obtain ⟨hp, hke, hze⟩ := hfor
                  rw [hp] at m1
                  by_cases hk0 : k = 0
                  · rw [hze hk0] at m0
                    have hq1 : ¬ (0 : Int) < k := by omega
                    have hq2 : ¬ 0 < k := by omega
                    have hq3 : ((k : Int) == 0) = true := by rw [beq_iff_eq]; omega
                    have hk0H := Lib.hid hk0
                    clear hk0 hp hke hze
                    go_wp2_with fail
                    obtain ⟨W0, hW0⟩ : ∃ W0, W0 = wr.alloc (iobj z) := ⟨_, rfl⟩
                    have hbx := held_box hW0
                    have h0 : Below wr.heap.size wr W0 := by subst hW0; exact (Below.refl _ _).alloc (Nat.le_refl _) _
                    obtain ⟨f0, f1⟩ := hbx W0 (Below.refl _ _)
                    have p0 := (h0.cell (p := ⟨g7, k * 2, none⟩) hgr).trans m0
                    have p1 := (h0.cell (p := ⟨g7, k * 2 + 1, none⟩) hgr).trans m1
                    rw [← hW0]
                    have HB := Lib.hid h0
                    clear hW0 hbx h0
                    have g0 := cell_gw f0
                    have g1 := cell_gw f1
                    have g2 := cell_gw p0
                    have g3 := cell_gw p1
                    refine wp_region_gw (by kernel_rfl) (by kernel_rfl) ?_
                    repeat (refine wq_step (fun K hK => ?_); go_simp; (refine hK _ ?_; clear hK K))
                    refine wq_nil ?_
                    intro w9 hw9
                    replace hw9 := gw_to hw9
                    clear g0 g1 g2 g3 f0 f1 p0 p1 d0 d1 m0 m1 c0 c1
                    go_wp2_with fail
                    go_roundw
                    case rel => exact ⟨k + 1, by omega, by go_num, HW.out.1.trans ((HB.out.trans (hw9.mono HB.out.size)).mono HW.out.1.size)⟩
                    case measure => simp [RowKit.intOf]; omega
                  · rw [hke hk0] at m0
                    have hq1 : (0 : Int) < k := by omega
                    have hq2 : 0 < k := by omega
                    have hq3 : ((k : Int) == 0) = false := by rw [beq_eq_false_iff_ne]; omega
                    clear hk0 hp hke hze
                    go_wp2_with fail
                    obtain ⟨W0, hW0⟩ : ∃ W0, W0 = wr.alloc (iobj z) := ⟨_, rfl⟩
                    have hbx := held_box hW0
                    have h0 : Below wr.heap.size wr W0 := by subst hW0; exact (Below.refl _ _).alloc (Nat.le_refl _) _
                    obtain ⟨f0, f1⟩ := hbx W0 (Below.refl _ _)
                    have p0 := (h0.cell (p := ⟨g7, k * 2, none⟩) hgr).trans m0
                    have p1 := (h0.cell (p := ⟨g7, k * 2 + 1, none⟩) hgr).trans m1
                    rw [← hW0]
                    have HB := Lib.hid h0
                    clear hW0 hbx h0
                    have g0 := cell_gw f0
                    have g1 := cell_gw f1
                    have g2 := cell_gw p0
                    have g3 := cell_gw p1
                    refine wp_region_gw (by kernel_rfl) (by kernel_rfl) ?_
                    repeat (refine wq_step (fun K hK => ?_); go_simp; (refine hK _ ?_; clear hK K))
                    refine wq_nil ?_
                    intro w9 hw9
                    replace hw9 := gw_to hw9
                    clear g0 g1 g2 g3 f0 f1 p0 p1 d0 d1 m0 m1 c0 c1
                    go_wp2_with fail
                    go_roundw
                    case rel => exact ⟨k + 1, by omega, by go_num, HW.out.1.trans ((HB.out.trans (hw9.mono HB.out.size)).mono HW.out.1.size)⟩
                    case measure => simp [RowKit.intOf]; omega
                · have hkl : k - x.length + 1 < l.length := by have := HAT.out.len; omega
                  have hfor := HAT.out.high k hkM (by omega) hkl
                  have hcl := HLC.out.1 (k - x.length + 1) hkl wr hwr
                  rw [HY.out] at hfor
                  generalize hz : l[k - x.length + 1] = z at *
                  obtain ⟨b1, o1, hA1, c0, c1⟩ := hcl
                  cases hA1
                  have HZZ := Lib.hid hz
                  clear hz hwr
                  have hbb0 := World.block_lt_of_cell? wr _ c0
                  have hz0 : Below wr.heap.size wr (wr.alloc (.cells #[.string ⟨#[]⟩, .int .i64 0] 24)) := (Below.refl _ _).alloc (Nat.le_refl _) _
                  have d0 := (hz0.cell (p := ⟨b0, o0 + (k - x.length + 1) * 2, none⟩) hbb0).trans c0
                  have d1 := (hz0.cell (p := ⟨b0, o0 + (k - x.length + 1) * 2 + 1, none⟩) hbb0).trans c1
                  clear hz0 hbb0
                  have hlowI : ¬ (k : Int) < n := by omega
                  have hmidI : ¬ (k : Int) < (n : Int) + x.length := by omega
                  have hxi : (0 : Int) ≤ (k : Int) - x.length + 1 := by omega
                  have hxj : (k : Int) - x.length + 1 < l.length := by omega
                  have hxn : ((k : Int) - x.length + 1).toNat = k - x.length + 1 := by omega
                  have hnI : (n : Int) ≤ 100 := by omega
                  obtain ⟨hp, hke, hze⟩ := hfor
                  rw [hp] at m1
                  by_cases hk0 : k = 0
                  · rw [hze hk0] at m0
                    have hq1 : ¬ (0 : Int) < k := by omega
                    have hq2 : ¬ 0 < k := by omega
                    have hq3 : ((k : Int) == 0) = true := by rw [beq_iff_eq]; omega
                    have hk0H := Lib.hid hk0
                    clear hk0 hp hke hze
                    go_wp2_with fail
                    obtain ⟨W0, hW0⟩ : ∃ W0, W0 = wr.alloc (iobj z) := ⟨_, rfl⟩
                    have hbx := held_box hW0
                    have h0 : Below wr.heap.size wr W0 := by subst hW0; exact (Below.refl _ _).alloc (Nat.le_refl _) _
                    obtain ⟨f0, f1⟩ := hbx W0 (Below.refl _ _)
                    have p0 := (h0.cell (p := ⟨g7, k * 2, none⟩) hgr).trans m0
                    have p1 := (h0.cell (p := ⟨g7, k * 2 + 1, none⟩) hgr).trans m1
                    rw [← hW0]
                    have HB := Lib.hid h0
                    clear hW0 hbx h0
                    have g0 := cell_gw f0
                    have g1 := cell_gw f1
                    have g2 := cell_gw p0
                    have g3 := cell_gw p1
                    refine wp_region_gw (by kernel_rfl) (by kernel_rfl) ?_
                    repeat (refine wq_step (fun K hK => ?_); go_simp; (refine hK _ ?_; clear hK K))
                    refine wq_nil ?_
                    intro w9 hw9
                    replace hw9 := gw_to hw9
                    clear g0 g1 g2 g3 f0 f1 p0 p1 d0 d1 m0 m1 c0 c1
                    go_wp2_with fail
                    go_roundw
                    case rel => exact ⟨k + 1, by omega, by go_num, HW.out.1.trans ((HB.out.trans (hw9.mono HB.out.size)).mono HW.out.1.size)⟩
                    case measure => simp [RowKit.intOf]; omega
                  · rw [hke hk0] at m0
                    have hq1 : (0 : Int) < k := by omega
                    have hq2 : 0 < k := by omega
                    have hq3 : ((k : Int) == 0) = false := by rw [beq_eq_false_iff_ne]; omega
                    clear hk0 hp hke hze
                    go_wp2_with fail
                    obtain ⟨W0, hW0⟩ : ∃ W0, W0 = wr.alloc (iobj z) := ⟨_, rfl⟩
                    have hbx := held_box hW0
                    have h0 : Below wr.heap.size wr W0 := by subst hW0; exact (Below.refl _ _).alloc (Nat.le_refl _) _
                    obtain ⟨f0, f1⟩ := hbx W0 (Below.refl _ _)
                    have p0 := (h0.cell (p := ⟨g7, k * 2, none⟩) hgr).trans m0
                    have p1 := (h0.cell (p := ⟨g7, k * 2 + 1, none⟩) hgr).trans m1
                    rw [← hW0]
                    have HB := Lib.hid h0
                    clear hW0 hbx h0
                    have g0 := cell_gw f0
                    have g1 := cell_gw f1
                    have g2 := cell_gw p0
                    have g3 := cell_gw p1
                    refine wp_region_gw (by kernel_rfl) (by kernel_rfl) ?_
                    repeat (refine wq_step (fun K hK => ?_); go_simp; (refine hK _ ?_; clear hK K))
                    refine wq_nil ?_
                    intro w9 hw9
                    replace hw9 := gw_to hw9
                    clear g0 g1 g2 g3 f0 f1 p0 p1 d0 d1 m0 m1 c0 c1
                    go_wp2_with fail
                    go_roundw
                    case rel => exact ⟨k + 1, by omega, by go_num, HW.out.1.trans ((HB.out.trans (hw9.mono HB.out.size)).mono HW.out.1.size)⟩
                    case measure => simp [RowKit.intOf]; omega
            · obtain rfl : k = nM := by omega
              have HW := Lib.hid (And.intro hbl hwr)
              clear hbl hwr
              by_cases hx1 : x.length = 1
              · have hqx : ((x.length : Int) != 1) = false := by rw [hx1]; rfl
                obtain ⟨xa, hxa⟩ := List.length_eq_one_iff.1 hx1
                have hlnM : l.length = k := by have h1 := HK.out.2.2.2.1.len; rw [HN.out, hx1] at h1; omega
                have hback := replL_back hnl HK.out.1 xa
                have hM' := HM.out
                rw [hxa] at hM'
                rw [hM'] at hback
                have HBK := Lib.hid (And.intro hback (And.intro hx1 hlnM))
                have hza : l[n].key.size ≤ 9000 := HK.out.2.1 _ (List.getElem_mem hnl)
                have hoz : l[n].ok := HR.out.2.1 _ (List.getElem_mem hnl)
                have HCN := Lib.hid (fun W hW => HLC.out.1 n hnl W hW)
                have hnI : (n : Int) ≤ 100 := by omega
                have hn0 : (0 : Int) ≤ n := by omega
                clear hx1 hxa hback hM' hlnM
                generalize hz : l[n] = z at *
                have HZZ := Lib.hid hz
                clear hz
                go_wp2_with fail
                refine (HAL.out _).mono ?_
                rintro e wa ⟨rfl, hba⟩
                have hw7a := HW.out.1.trans (hba.mono HW.out.1.size)
                have hwa := H7.out.2.1.trans (hw7a.mono H7.out.2.1.size)
                obtain ⟨b1, o1, hA1, c0, c1⟩ := HCN.out wa hwa
                cases hA1
                have hown7' : w7.ownsRow w2.heap.size 24 2 (.slice A7 k c7) M.length (ilist M) := by rw [HN.out]; exact H7.out.1
                have hrM := (row_readsIt hown7').grow hw7a hw7a.size
                have hrZ : ReadsIt (wa.alloc (iobj z)) (wa.heap.size + 1) (.slice (some ⟨wa.heap.size, 0, none⟩) 1 1) [z] := ReadsIt.built wa [z] (by unfold maxLen; simp)
                have hbz : Below wa.heap.size wa (wa.alloc (iobj z)) := (Below.refl _ _).alloc (Nat.le_refl _) _
                have hP2 := replace_any (.slice A7 k c7) (.slice (some ⟨wa.heap.size, 0, none⟩) 1 1) M [z] n (wa.alloc (iobj z)) (hrM.grow hbz hbz.size) (by rw [World.size_alloc]; exact hrZ) ⟨by omega, by omega⟩ (by rw [HN.out]; omega) (by simp) (fun y hy => by have := HK.out.2.2.2.2 y hy; omega) (fun y hy => by simp at hy; subst hy; omega)
                rw [HBK.out.1] at hP2
                have hrl := HR.out.1.grow (hwa.trans (hbz.mono hwa.size)) (by have := hwa.size; simp; omega)
                have HP2 := Lib.hid hP2
                have HA := Lib.hid (And.intro hwa (And.intro hbz hrl))
                clear hP2 hrM hrZ hown7' hw7a hwa hba hbz hrl
                go_wp2_with fail
                refine HP2.out.mono ?_
                rintro e w8 ⟨v8, rfl, hown8, hb8⟩
                have hr8 := row_readsIt hown8
                have hrl8 := HA.out.2.2.grow hb8 hb8.size
                obtain ⟨A8, c8, rfl⟩ := hr8.form
                have hSI := sameItems_any (.slice A8 l.length c8) (.slice (some ⟨b0, o0, none⟩) l.length c) l w8 hr8 hrl8 (by omega)
                have hw8 := (HA.out.1.trans (HA.out.2.1.mono HA.out.1.size)).trans (hb8.mono (Nat.le_trans HA.out.1.size HA.out.2.1.size))
                have H8 := Lib.hid hw8
                clear hown8 hr8 hrl8 hb8 hw8 c0 c1
                go_wp2_with fail
                refine hSI.mono ?_
                rintro e w9 ⟨rfl, hb9⟩
                have H9 := Lib.hid (H8.out.trans (hb9.mono H8.out.size))
                clear hSI hb9
                go_wp2_with fail
                go_ret
                exact ⟨rfl, H9.out⟩
              · have hqx : ((x.length : Int) != 1) = true := by rw [bne_iff_ne]; omega
                have hx1H := Lib.hid hx1
                clear hx1
                go_wp2_with fail
                refine (HAL.out _).mono ?_
                rintro e wa ⟨rfl, hba⟩
                have HZ := Lib.hid (HW.out.2.trans (hba.mono HW.out.2.size))
                clear hba
                go_wp2_with fail
                go_ret
                exact ⟨rfl, HZ.out⟩
        · have hne : (l[0].key.toList == ([] : List UInt8)) = false := by
            rw [beq_eq_false_iff_ne]
            intro h
            exact hk0 (toList_inj (h.trans (by rw [Lib.toList_data])))
          generalize l[0].key = y at *
          clear hr hok hrx hokx hi hr2 hlc hxc hk0
          go_wp2_with fail
          refine (HAL.out _).mono ?_
          rintro e wa ⟨rfl, hba⟩
          have HZ := Lib.hid (HBB.out.trans (hba.mono HBB.out.size))
          clear hba
          go_wp2_with fail
          go_ret
          exact ⟨rfl, HZ.out⟩
      · have hno : i < 0 ∨ (0 ≤ i ∧ (l.length : Int) ≤ i) := by omega
        clear hin
        rcases hno with h | ⟨h, h2⟩
        · skip
          go_wp2_with fail
          refine (HAL.out _).mono ?_
          rintro e wa ⟨rfl, hba⟩
          have HZ := Lib.hid (HBB.out.trans (hba.mono HBB.out.size))
          clear hba
          go_wp2_with fail
          go_ret
          exact ⟨rfl, HZ.out⟩
        · skip
          go_wp2_with fail
          refine (HAL.out _).mono ?_
          rintro e wa ⟨rfl, hba⟩
          have HZ := Lib.hid (HBB.out.trans (hba.mono HBB.out.size))
          clear hba
          go_wp2_with fail
          go_ret
          exact ⟨rfl, HZ.out⟩

set_option maxRecDepth 100000 in
theorem lifted (os : Os) (started : os.Started) (H : Type) (enc : TypeId × Value → H) :
    ReturnsInHanded {} Try.checked os 6 .any (Rows.branchReplacesSpec.pre6 enc Try.prog Try.f6 Rows.branchReplacesRow.domain false) (Rows.branchReplacesSpec.post enc Try.prog Try.f6 false true false false) := by
  refine returnsInHanded_of_change (C := Try.checked) own started (by kernel_rfl) Try.func6
    (ChangeSpec.witness6 (enc := enc) (C := Try.checked) false ⟨#[], #[.slice none 0 0, .int .i64 0, .slice none 0 0], []⟩ 8 (by kernel_rfl) (by kernel_rfl) (by kernel_rfl) (by kernel_rfl)) ?_
  intro W base args ds gs before hval0 hW hcnd _
  have hval : ∀ (j : Nat) t v, Try.f6.params[j]? = some t → args[j]? = some v → Value.okWide Try.prog W .any base t v := hval0
  have hW' := hW
  obtain ⟨p, q, hA0, hV, rfl, hfz, hnd⟩ := hW
  have hA : DataW.TrodAll enc Try.prog W 0 (fun _ => true) true Try.f6.params.toList args.toList ds p := hA0
  rw [Try.params6] at hA hval
  obtain ⟨v0, vs0, d0, ds0, p0, q0, hargs, rfl, rfl, h0, r00⟩ := trodAll_cons hA
  obtain ⟨v1, vs1, d1, ds1, p1, q1, rfl, rfl, rfl, h1, r01⟩ := trodAll_cons r00
  obtain ⟨v2, vs2, d2, ds2, p2, q2, rfl, rfl, rfl, h2, r02⟩ := trodAll_cons r01
  obtain ⟨rfl, rfl, rfl⟩ := trodAll_nil r02
  obtain rfl : args = #[v0, v1, v2] := by cases args; simp_all
  obtain ⟨rfl, rfl⟩ := trodVars_none hV
  obtain ⟨l0, r0, i0, m0⟩ := reads_children (hval 0 22 v0 rfl rfl) h0
  obtain ⟨n1, rfl, rfl, rfl, w1⟩ := open_int Try.underlying3 (hval 1 3 v1 rfl rfl) h1
  obtain ⟨l2, r2, i2, m2⟩ := reads_children (hval 2 22 v2 rfl rfl) h2
  clear hA0 hval0
  refine (walk W v0 l0 r0 i0 n1 (isInt_of_wf w1) v2 l2 r2 i2).mono fun e W' ⟨he, hb⟩ => ?_
  subst he
  exact ⟨_, rfl, law_post hW' rfl rfl (by kernel_rfl) (by kernel_rfl) hb⟩

theorem said : Rows.BranchReplacesSaid :=
  OpenClaim.holds_of_wide 6 Try.f6 rfl rfl rfl rfl rfl rfl rfl ⟨rfl, rfl, rfl, rfl, rfl⟩ rfl rfl rfl rfl rfl (by kernel_rfl) Try.func6 (by kernel_rfl)
    (of_decide_eq_true (by kernel_rfl)) (by unfold Func.isWrapper; first | (rw [if_pos (by decide +kernel)]; kernel_rfl) | (rw [if_neg (by decide +kernel)]; exact ⟨rfl, rfl⟩))
    (fun os started H enc _ => lifted os started H enc)
end Go.Proofs.Ytpfifmjcmpankaa.BR.branchReplaces
