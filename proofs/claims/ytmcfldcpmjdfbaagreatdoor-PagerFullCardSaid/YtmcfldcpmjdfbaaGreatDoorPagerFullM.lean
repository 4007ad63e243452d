/-
  PagerFull: there is room for just so many pages; where there is none nothing has changed; a page that is dropped gives its room. For every number of pages and every page. Conditions: the variables that the row lists are laid as its card says.
-/
import Derived.Test.YtmcfldcpmjdfbaaGreatDoorMg44
import Derived.Test.YtmcfldcpmjdfbaaGreatDoorMg46
namespace Go.Proofs.YtmcfldcpmjdfbaaGreatDoor.pagerFull
open Go.RowKit Go.Sort Go.Lib Go.ChangeShapes Go.WideShapes Go.ChangeAt

/-- Rising numbers that are all from 2 on, so many. -/
theorem fated_length {H : Int → Chg} {L : List Int} {m : Nat} (h : Fated H 1 L) (hH : ∀ y, (H y).fate = 1 ↔ 2 ≤ y ∧ y < 2 + m) : L.length = m := by
  have h1 : L.Nodup := h.1.imp (fun {a b} hab => by omega)
  have h2 : ((List.range m).map fun i : Nat => (2 + i : Int)).Nodup := by
    refine List.Pairwise.map _ (fun a b hab => ?_) List.nodup_range
    omega
  have hp := (List.perm_ext_iff_of_nodup h1 h2).2 (fun a => by
    rw [h.2.2 a, hH a]
    simp only [List.mem_map, List.mem_range]
    constructor
    · rintro ⟨a1, a2⟩
      exact ⟨(a - 2).toNat, by omega, by omega⟩
    · rintro ⟨i, hi, rfl⟩
      omega)
  simpa using hp.length_eq

/-- What stands behind so many pages. -/
structure FullS (most : Int) (c : Chg) (s : PgS) (j : Nat) : Prop where
  spare : s.spare = []
  free : s.l = []
  pages : s.pages = 2 + j
  len : s.dev.pages.length = 2 + j
  most : s.dev.most = most
  idle : Idle s.dev
  n : s.n = j
  there : s.there = 2
  fate : ∀ y, (s.H y).fate = 1 ↔ 2 ≤ y ∧ y < 2 + (j : Int)
  same : ∀ y, (s.H y).fate = 1 → s.H y = c

theorem FullS.new (most : Int) (c : Chg) : FullS most c (newPg (longer (newS most) 2) [] 0 [] [] 2 1) 0 where
  spare := rfl
  free := rfl
  pages := rfl
  len := longer_new_len most 2
  most := rfl
  idle := longer_idle (newS_idle most) 2
  n := rfl
  there := rfl
  fate := fun y => by
    show (0 : Int) = 1 ↔ _
    omega
  same := fun y h => by simp [newPg, noChg] at h

theorem FullS.next {most : Int} {c : Chg} {s : PgS} {j : Nat} (h : FullS most c s j) (hc : c.fate = 1) : FullS most c (keptS { s with pages := s.pages + 1, dev := longer s.dev 1 } s.pages c) (j + 1) where
  spare := h.spare
  free := h.free
  pages := by show s.pages + 1 = _; rw [h.pages]; omega
  len := by show (longer s.dev 1).pages.length = _; rw [longer_len, h.len]; omega
  most := h.most
  idle := longer_idle h.idle 1
  n := by show s.n + 1 = _; rw [h.n]
  there := h.there
  fate := fun y => by
    show ((upd s.H s.pages c) y).fate = 1 ↔ _
    by_cases e : y = s.pages
    · subst e
      rw [upd_same, h.pages]
      simp [hc]
      omega
    · rw [upd_other _ _ e, h.fate y]
      have := h.pages
      omega
  same := fun y hy => by
    have hy' : ((upd s.H s.pages c) y).fate = 1 := hy
    show (upd s.H s.pages c) y = c
    by_cases e : y = s.pages
    · subst e
      exact upd_same _ _ _
    · rw [upd_other _ _ e] at hy' ⊢
      exact h.same y hy'

theorem seal_of {x k n : Int} {t : ByteArray} (h0 : 2 ≤ x) (h1 : x ≤ 40) (hk : 1 ≤ k ∧ k ≤ 255) (hn : 0 ≤ n ∧ n ≤ 4294967295) (ht : t.size ≤ 240) : sealE x k n t.size = 0 := by
  unfold sealE
  rw [if_pos, if_pos ht]
  unfold SealOK
  omega

theorem full_make {w : World} {F : List Nat} {p pd pf b j : Nat} {s : PgS} {most k n : Int} {t : ByteArray} (hf : FullS most ⟨1, k, n, t⟩ s j) (hj : 2 + (j : Int) < most) (h40 : most ≤ 40) (hk : IsInt k) (hn : IsInt n) (ht : t.size ≤ 240) (hse : ∀ x, 2 ≤ x → x ≤ 40 → sealE x k n t.size = 0) (h : PgIs p pd pf b s F w) :
    Calls Tryz.prog 8 #[.pointer (some ⟨p, 0, none⟩), .agg #[.int .i64 k, .int .i64 n, .string t]] w fun e w' => e = .returned (.tuple #[.int .i64 (2 + j), .int .i64 0]) ∧
      ∃ F', PgIs p pd pf b (keptS { s with pages := s.pages + 1, dev := longer s.dev 1 } s.pages ⟨1, k, n, t⟩) F' w' ∧ Goes F w F' w' := by
  have h1 := hf.pages
  rw [← h1]
  exact gmake_ext k n t hf.spare hf.free h (fun w1 hp1 => gextend_grow k n t (by rw [h1, hf.len]; omega) (by rw [h1, hf.most]; exact hj) hf.idle (by rw [h1]; unfold IsInt; omega) hk hn (by omega) (hse _ (by rw [h1]; omega) (by rw [h1]; omega)) (by rw [hf.n]; omega) hp1)
theorem full_none {w : World} {F : List Nat} {p pd pf b j : Nat} {s : PgS} {most k n : Int} {t : ByteArray} (hf : FullS most ⟨1, k, n, t⟩ s j) (hj : 2 + (j : Int) = most) (h40 : most ≤ 40) (hk : IsInt k) (hn : IsInt n) (ht : t.size ≤ 240) (hse : ∀ x, 2 ≤ x → x ≤ 40 → sealE x k n t.size = 0) (h : PgIs p pd pf b s F w) :
    Calls Tryz.prog 8 #[.pointer (some ⟨p, 0, none⟩), .agg #[.int .i64 k, .int .i64 n, .string t]] w fun e w' => e = .returned (.tuple #[.int .i64 0, .int .i64 10]) ∧ ∃ F', PgIs p pd pf b s F' w' ∧ Goes F w F' w' := by
  have h1 := hf.pages
  exact gmake_ext k n t hf.spare hf.free h (fun w1 hp1 => gextend_full k n t (by rw [h1, hf.len]; omega) (by rw [h1, hf.most]; exact hj) hf.idle (by rw [h1]; unfold IsInt; omega) hk hn (by omega) (hse _ (by rw [h1]; omega) (by rw [h1]; omega)) hp1)

set_option maxRecDepth 1000000 in
set_option maxHeartbeats 8000000 in
theorem walk_whole (w : World) (most : Int) (k n : Int) (t : ByteArray) (h0 : 3 ≤ most) (h1 : most ≤ 40) (hk : 1 ≤ k ∧ k ≤ 255) (hn : 0 ≤ n ∧ n ≤ 4294967295) (ht : t.size ≤ 240) :
    Calls Tryz.prog 6 #[.int .i64 most, .agg #[.int .i64 k, .int .i64 n, .string t]] w fun e w' => e = .returned (.bool true) ∧ Below w.heap.size w w' := by
  have hb1 := alloc_below (w := w) (.cells #[.int .i64 k, .int .i64 n, .string t] 23)
  have hx1 := Has.made w 23 #[.int .i64 k, .int .i64 n, .string t]
  have hbs := base7_ok (w := w.alloc (.cells #[.int .i64 k, .int .i64 n, .string t] 23)) (v := .slice none 0 0) (l := []) most 2 (by omega) (by omega) (by omega) (Reads1.empty _ _ _ _) (by simp)
  have hse : ∀ x, 2 ≤ x → x ≤ 40 → sealE x k n t.size = 0 := fun x a b => seal_of a b hk hn ht
  have hik : IsInt k := by unfold IsInt; omega
  have hin : IsInt n := by unfold IsInt; omega
  have HC := Lib.hid (And.intro hb1 (And.intro hx1 (And.intro hse (And.intro hik (And.intro hin ht)))))
  have HM := Lib.hid (And.intro h0 h1)
  have d0 := hx1.cell 0
  have d1 := hx1.cell 1
  have d2 := hx1.cell 2
  simp at d0 d1 d2
  have g1 : decide (most < 3) = false := by simp; omega
  have g2 : decide (40 < most) = false := by simp; omega
  have g3 : decide ((240 : Int) < (t.size : Int)) = false := by simp; omega
  have g4 : decide (k < 1) = false := by simp; omega
  have g5 : decide (255 < k) = false := by simp; omega
  have g6 : decide (n < 0) = false := by simp; omega
  have g7 : decide (4294967295 < n) = false := by simp; omega
  clear hb1 hx1 hse hik hin
  go_enter Tryz.func6, Tryz.ntmps6
  go_wp2_with fail
  refine hbs.mono ?_
  rintro e w1 ⟨pd, q, pf, qf, FD, FF, rfl, hd, hf, hge, hfg, hap, hb⟩
  have hnw := gnew_ok 2 1 hd hf hap (by omega) (by rw [longer_new_len]; omega) (by omega) (by simp [whats]) (by simp)
  have H1 := Lib.hid (And.intro hge (And.intro hfg hb))
  clear hbs hd hf hge hfg hap hb d0 d1 d2 g1 g2 g3 g4 g5 g6 g7
  go_wp2_with fail
  refine hnw.mono ?_
  rintro e w2 ⟨p, b, F2, rfl, hp2, hF2, hb2⟩
  obtain ⟨W0, hW0⟩ : ∃ W, w.alloc (.cells #[.int .i64 k, .int .i64 n, .string t] 23) = W := ⟨_, rfl⟩
  have hr2 : PgRun (w.alloc (.cells #[.int .i64 k, .int .i64 n, .string t] 23)) p pd pf b (newPg (longer (newS most) 2) [] 0 [] [] 2 1) w2 := PgRun.new hp2 hF2 H1.out.1 H1.out.2.1 H1.out.2.2 hb2
  obtain ⟨hb1, hx1, hse, hik, hin, -⟩ := HC.out
  rw [hW0] at hr2 hb1 hx1
  have HR2 := Lib.hid hr2
  have HC2 := Lib.hid (And.intro hb1 (And.intro hx1 (And.intro hse (And.intro hik (And.intro hin ht)))))
  obtain ⟨m, hm⟩ : ∃ m : Nat, most = 2 + m := ⟨(most - 2).toNat, by omega⟩
  have hxi := hx1.inside
  clear hnw hp2 hF2 hb2 H1 hb1 hx1 hse hik hin hr2 HC hW0 F2
  go_wp2_with fail
  go_loopg [12] m (fun g iv wr => ∃ (j : Nat) (s : PgS), iv = .int .i64 (2 + j) ∧ j + g = m ∧ PgRun W0 p pd pf b s wr ∧ FullS most ⟨1, k, n, t⟩ s j)
  case atStart => exact ⟨0, _, rfl, by omega, HR2.out, FullS.new most _⟩
  case round =>
    clear HR2 w2
    obtain ⟨j, s, rfl, hjg, hr, hfs⟩ := hrel
    have hxr := HC2.out.2.1.below hr.out hxi
    have d0 := hxr.cell 0
    have d1 := hxr.cell 1
    have d2 := hxr.cell 2
    simp at d0 d1 d2
    have hxri := hxr.inside
    obtain ⟨F, hp, hstep⟩ := hr.step
    clear hr hxr
    by_cases hlt : j < m
    · have hd : decide ((2 : Int) + (j : Int) < most) = true := by simp; omega
      have hmk := full_make hfs (by omega) h1 HC2.out.2.2.2.1 HC2.out.2.2.2.2.1 HC2.out.2.2.2.2.2 HC2.out.2.2.1 hp
      have HS := Lib.hid (And.intro hstep (hfs.next rfl))
      have hjb : (j : Int) ≤ 40 := by omega
      have HMM := Lib.hid hm
      clear hp hstep hfs hm
      go_wp2_with fail
      refine hmk.mono ?_
      rintro e w3 ⟨rfl, h3⟩
      have H3 := Lib.hid h3
      clear hmk h3 d0 d1 d2
      go_wp2_with fail
      go_roundg (m - (j + 1))
      case measure => omega
      case rel => exact ⟨j + 1, _, by go_num, by omega, HS.out.1 _ _ H3.out, HS.out.2⟩
    · obtain rfl : j = m := by omega
      have hd : decide ((2 : Int) + (j : Int) < most) = false := by simp; omega
      obtain ⟨-, -, hse, hik, hin, ht⟩ := HC2.out
      have hmk := full_none hfs (by omega) h1 hik hin ht hse hp
      have hw2 : IntKind.i64.wrap (most - 2) = (j : Int) := by rw [IntWalk.i64_in _ (by omega)]; omega
      have HMM := Lib.hid hm
      have HS := Lib.hid (And.intro hstep hfs)
      clear hp hstep hfs hm hse hik hin
      go_wp2_with fail
      refine hmk.mono ?_
      rintro e w3 ⟨rfl, F3, hp3, hg3⟩
      have hfs := HS.out.2
      have hr3 : PgRun W0 p pd pf b s w3 := HS.out.1 _ _ ⟨F3, hp3, hg3⟩
      have hpg := gpages_any hp3
      rw [show s.pages = most by rw [hfs.pages, HMM.out]] at hpg
      have hmd := gmade_any (by rw [hfs.n]; have := HMM.out; omega) hp3
      have HR3 := Lib.hid hr3
      clear hmk hp3 hg3 hr3 HS d0 d1 d2 hd
      have HF := Lib.hid hfs
      clear hfs
      go_wp2_with fail
      refine hpg.mono ?_
      rintro e w' ⟨rfl, rfl⟩
      go_wp2_with fail
      refine hmd.mono ?_
      rintro e w4 ⟨v4, L, rfl, hr4, hfat, -, hb4⟩
      have hLj := fated_length hfat HF.out.fate
      obtain ⟨A4, c4, hform⟩ := row_form hr4
      rw [hLj] at hform
      subst hform
      have hr4' := HR3.out.below hb4
      have hxr := HC2.out.2.1.below hr4'.out hxi
      have d0 := hxr.cell 0
      have d1 := hxr.cell 1
      have d2 := hxr.cell 2
      simp at d0 d1 d2
      have hxri := hxr.inside
      obtain ⟨F4, hp4, hstep4⟩ := hr4'.step
      have hf2 : (s.H 2).fate = 1 := (HF.out.fate 2).2 (by have := HMM.out; omega)
      have hdr := gdrop_beyond 2 (by omega) (by rw [HF.out.pages]; have := HMM.out; omega) hf2 (by rw [HF.out.same 2 hf2]; have := HC2.out.2.2.2.2.2; show t.size ≤ _; omega) (by rw [HF.out.there]; omega) (by unfold IsInt; omega) (by rw [HF.out.n]; have := HMM.out; omega) (by rw [HF.out.spare]; simp) hp4
      have HS4 := Lib.hid hstep4
      clear hpg hmd hr4 hfat hb4 hLj hr4' hxr hp4 hstep4 HR3 hf2
      go_wp2_with fail
      refine hdr.mono ?_
      rintro e w5 ⟨rfl, h5⟩
      have hr5 := HS4.out _ _ h5
      have hxr := HC2.out.2.1.below hr5.out hxi
      have k0 := hxr.cell 0
      have k1 := hxr.cell 1
      have k2 := hxr.cell 2
      simp at k0 k1 k2
      have hxri5 := hxr.inside
      obtain ⟨F5, hp5, hstep5⟩ := hr5.step
      obtain ⟨-, -, hse, hik, hin, ht⟩ := HC2.out
      have hmk := gmake_spare (x := 2) (l := []) k n t (by show (2 :: s.spare).Perm _; rw [HF.out.spare]) (by simp) (by unfold IsInt; omega) hik hin (by omega) (hse 2 (by omega) (by omega)) (by show s.n + 1 < 1000000; rw [HF.out.n]; have := HMM.out; omega) hp5
      have HS5 := Lib.hid hstep5
      clear hdr h5 hr5 hxr hp5 hstep5 HS4 d0 d1 d2 hse hik hin
      go_wp2_with fail
      refine hmk.mono ?_
      rintro e w6 ⟨rfl, h6⟩
      have hr6 := HS5.out _ _ h6
      have HO := Lib.hid hr6.out
      have hal := alive7_any w6
      clear hmk h6 hr6 HS5 k0 k1 k2
      go_wp2_with fail
      refine hal.mono ?_
      rintro e w7 ⟨rfl, hb7⟩
      have HB7 := Lib.hid hb7
      clear hal hb7
      go_wp2_with fail
      go_ret
      exact ⟨rfl, (HC2.out.1.trans (HO.out.mono HC2.out.1.size)).trans (HB7.out.mono (Nat.le_trans HC2.out.1.size HO.out.size))⟩
/-- What does not come to a pager. -/
def Out (most k n : Int) (t : ByteArray) (i : Nat) : Prop := match i with
  | 0 => most < 3
  | 1 => ¬ (most < 3) ∧ 40 < most
  | 2 => ¬ (most < 3) ∧ ¬ (40 < most) ∧ 240 < t.size
  | 3 => ¬ (most < 3) ∧ ¬ (40 < most) ∧ ¬ (240 < t.size) ∧ k < 1
  | 4 => ¬ (most < 3) ∧ ¬ (40 < most) ∧ ¬ (240 < t.size) ∧ ¬ (k < 1) ∧ 255 < k
  | 5 => ¬ (most < 3) ∧ ¬ (40 < most) ∧ ¬ (240 < t.size) ∧ ¬ (k < 1) ∧ ¬ (255 < k) ∧ n < 0
  | 6 => ¬ (most < 3) ∧ ¬ (40 < most) ∧ ¬ (240 < t.size) ∧ ¬ (k < 1) ∧ ¬ (255 < k) ∧ ¬ (n < 0) ∧ 4294967295 < n
  | _ => False

set_option maxRecDepth 1000000 in
set_option maxHeartbeats 2000000 in
theorem walk_out0 (w : World) (most k n : Int) (t : ByteArray) (_hs : t.size ≤ 9223372036854775807) (h : Out most k n t 0) :
    Calls Tryz.prog 6 #[.int .i64 most, .agg #[.int .i64 k, .int .i64 n, .string t]] w fun e w' => e = .returned (.bool true) ∧ Below w.heap.size w w' := by
  replace h : most < 3 := h
  have hb1 := alloc_below (w := w) (.cells #[.int .i64 k, .int .i64 n, .string t] 23)
  have hx1 := Has.made w 23 #[.int .i64 k, .int .i64 n, .string t]
  have hal := alive7_any (w.alloc (.cells #[.int .i64 k, .int .i64 n, .string t] 23))
  have HB := Lib.hid hb1
  have d0 := hx1.cell 0
  have d1 := hx1.cell 1
  have d2 := hx1.cell 2
  simp at d0 d1 d2
  have g1 : decide (most < 3) = true := by simp; omega
  clear hb1 hx1 h
  go_enter Tryz.func6, Tryz.ntmps6
  go_wp2_with fail
  refine hal.mono ?_
  rintro e w1 ⟨rfl, hb⟩
  have HB1 := Lib.hid hb
  clear hal hb
  go_wp2_with fail
  go_ret
  exact ⟨rfl, HB.out.trans (HB1.out.mono HB.out.size)⟩

set_option maxRecDepth 1000000 in
set_option maxHeartbeats 2000000 in
theorem walk_out1 (w : World) (most k n : Int) (t : ByteArray) (_hs : t.size ≤ 9223372036854775807) (h : Out most k n t 1) :
    Calls Tryz.prog 6 #[.int .i64 most, .agg #[.int .i64 k, .int .i64 n, .string t]] w fun e w' => e = .returned (.bool true) ∧ Below w.heap.size w w' := by
  replace h : ¬ (most < 3) ∧ 40 < most := h
  have hb1 := alloc_below (w := w) (.cells #[.int .i64 k, .int .i64 n, .string t] 23)
  have hx1 := Has.made w 23 #[.int .i64 k, .int .i64 n, .string t]
  have hal := alive7_any (w.alloc (.cells #[.int .i64 k, .int .i64 n, .string t] 23))
  have HB := Lib.hid hb1
  have d0 := hx1.cell 0
  have d1 := hx1.cell 1
  have d2 := hx1.cell 2
  simp at d0 d1 d2
  have g1 : decide (most < 3) = false := by simp; omega
  have g2 : decide (40 < most) = true := by simp; omega
  clear hb1 hx1 h
  go_enter Tryz.func6, Tryz.ntmps6
  go_wp2_with fail
  refine hal.mono ?_
  rintro e w1 ⟨rfl, hb⟩
  have HB1 := Lib.hid hb
  clear hal hb
  go_wp2_with fail
  go_ret
  exact ⟨rfl, HB.out.trans (HB1.out.mono HB.out.size)⟩

set_option maxRecDepth 1000000 in
set_option maxHeartbeats 2000000 in
theorem walk_out2 (w : World) (most k n : Int) (t : ByteArray) (hs : t.size ≤ 9223372036854775807) (h : Out most k n t 2) :
    Calls Tryz.prog 6 #[.int .i64 most, .agg #[.int .i64 k, .int .i64 n, .string t]] w fun e w' => e = .returned (.bool true) ∧ Below w.heap.size w w' := by
  replace h : ¬ (most < 3) ∧ ¬ (40 < most) ∧ 240 < t.size := h
  have hb1 := alloc_below (w := w) (.cells #[.int .i64 k, .int .i64 n, .string t] 23)
  have hx1 := Has.made w 23 #[.int .i64 k, .int .i64 n, .string t]
  have hal := alive7_any (w.alloc (.cells #[.int .i64 k, .int .i64 n, .string t] 23))
  have HB := Lib.hid hb1
  have d0 := hx1.cell 0
  have d1 := hx1.cell 1
  have d2 := hx1.cell 2
  simp at d0 d1 d2
  have g1 : decide (most < 3) = false := by simp; omega
  have g2 : decide (40 < most) = false := by simp; omega
  have g3 : decide ((240 : Int) < (t.size : Int)) = true := by simp; omega
  clear hb1 hx1 h
  go_enter Tryz.func6, Tryz.ntmps6
  go_wp2_with fail
  refine hal.mono ?_
  rintro e w1 ⟨rfl, hb⟩
  have HB1 := Lib.hid hb
  clear hal hb
  go_wp2_with fail
  go_ret
  exact ⟨rfl, HB.out.trans (HB1.out.mono HB.out.size)⟩

set_option maxRecDepth 1000000 in
set_option maxHeartbeats 2000000 in
theorem walk_out3 (w : World) (most k n : Int) (t : ByteArray) (hs : t.size ≤ 9223372036854775807) (h : Out most k n t 3) :
    Calls Tryz.prog 6 #[.int .i64 most, .agg #[.int .i64 k, .int .i64 n, .string t]] w fun e w' => e = .returned (.bool true) ∧ Below w.heap.size w w' := by
  replace h : ¬ (most < 3) ∧ ¬ (40 < most) ∧ ¬ (240 < t.size) ∧ k < 1 := h
  have hb1 := alloc_below (w := w) (.cells #[.int .i64 k, .int .i64 n, .string t] 23)
  have hx1 := Has.made w 23 #[.int .i64 k, .int .i64 n, .string t]
  have hal := alive7_any (w.alloc (.cells #[.int .i64 k, .int .i64 n, .string t] 23))
  have HB := Lib.hid hb1
  have d0 := hx1.cell 0
  have d1 := hx1.cell 1
  have d2 := hx1.cell 2
  simp at d0 d1 d2
  have g1 : decide (most < 3) = false := by simp; omega
  have g2 : decide (40 < most) = false := by simp; omega
  have g3 : decide ((240 : Int) < (t.size : Int)) = false := by simp; omega
  have g4 : decide (k < 1) = true := by simp; omega
  clear hb1 hx1 h
  go_enter Tryz.func6, Tryz.ntmps6
  go_wp2_with fail
  refine hal.mono ?_
  rintro e w1 ⟨rfl, hb⟩
  have HB1 := Lib.hid hb
  clear hal hb
  go_wp2_with fail
  go_ret
  exact ⟨rfl, HB.out.trans (HB1.out.mono HB.out.size)⟩

set_option maxRecDepth 1000000 in
set_option maxHeartbeats 2000000 in
theorem walk_out4 (w : World) (most k n : Int) (t : ByteArray) (hs : t.size ≤ 9223372036854775807) (h : Out most k n t 4) :
    Calls Tryz.prog 6 #[.int .i64 most, .agg #[.int .i64 k, .int .i64 n, .string t]] w fun e w' => e = .returned (.bool true) ∧ Below w.heap.size w w' := by
  replace h : ¬ (most < 3) ∧ ¬ (40 < most) ∧ ¬ (240 < t.size) ∧ ¬ (k < 1) ∧ 255 < k := h
  have hb1 := alloc_below (w := w) (.cells #[.int .i64 k, .int .i64 n, .string t] 23)
  have hx1 := Has.made w 23 #[.int .i64 k, .int .i64 n, .string t]
  have hal := alive7_any (w.alloc (.cells #[.int .i64 k, .int .i64 n, .string t] 23))
  have HB := Lib.hid hb1
  have d0 := hx1.cell 0
  have d1 := hx1.cell 1
  have d2 := hx1.cell 2
  simp at d0 d1 d2
  have g1 : decide (most < 3) = false := by simp; omega
  have g2 : decide (40 < most) = false := by simp; omega
  have g3 : decide ((240 : Int) < (t.size : Int)) = false := by simp; omega
  have g4 : decide (k < 1) = false := by simp; omega
  have g5 : decide (255 < k) = true := by simp; omega
  clear hb1 hx1 h
  go_enter Tryz.func6, Tryz.ntmps6
  go_wp2_with fail
  refine hal.mono ?_
  rintro e w1 ⟨rfl, hb⟩
  have HB1 := Lib.hid hb
  clear hal hb
  go_wp2_with fail
  go_ret
  exact ⟨rfl, HB.out.trans (HB1.out.mono HB.out.size)⟩

set_option maxRecDepth 1000000 in
set_option maxHeartbeats 2000000 in
theorem walk_out5 (w : World) (most k n : Int) (t : ByteArray) (hs : t.size ≤ 9223372036854775807) (h : Out most k n t 5) :
    Calls Tryz.prog 6 #[.int .i64 most, .agg #[.int .i64 k, .int .i64 n, .string t]] w fun e w' => e = .returned (.bool true) ∧ Below w.heap.size w w' := by
  replace h : ¬ (most < 3) ∧ ¬ (40 < most) ∧ ¬ (240 < t.size) ∧ ¬ (k < 1) ∧ ¬ (255 < k) ∧ n < 0 := h
  have hb1 := alloc_below (w := w) (.cells #[.int .i64 k, .int .i64 n, .string t] 23)
  have hx1 := Has.made w 23 #[.int .i64 k, .int .i64 n, .string t]
  have hal := alive7_any (w.alloc (.cells #[.int .i64 k, .int .i64 n, .string t] 23))
  have HB := Lib.hid hb1
  have d0 := hx1.cell 0
  have d1 := hx1.cell 1
  have d2 := hx1.cell 2
  simp at d0 d1 d2
  have g1 : decide (most < 3) = false := by simp; omega
  have g2 : decide (40 < most) = false := by simp; omega
  have g3 : decide ((240 : Int) < (t.size : Int)) = false := by simp; omega
  have g4 : decide (k < 1) = false := by simp; omega
  have g5 : decide (255 < k) = false := by simp; omega
  have g6 : decide (n < 0) = true := by simp; omega
  clear hb1 hx1 h
  go_enter Tryz.func6, Tryz.ntmps6
  go_wp2_with fail
  refine hal.mono ?_
  rintro e w1 ⟨rfl, hb⟩
  have HB1 := Lib.hid hb
  clear hal hb
  go_wp2_with fail
  go_ret
  exact ⟨rfl, HB.out.trans (HB1.out.mono HB.out.size)⟩

set_option maxRecDepth 1000000 in
set_option maxHeartbeats 2000000 in
theorem walk_out6 (w : World) (most k n : Int) (t : ByteArray) (hs : t.size ≤ 9223372036854775807) (h : Out most k n t 6) :
    Calls Tryz.prog 6 #[.int .i64 most, .agg #[.int .i64 k, .int .i64 n, .string t]] w fun e w' => e = .returned (.bool true) ∧ Below w.heap.size w w' := by
  replace h : ¬ (most < 3) ∧ ¬ (40 < most) ∧ ¬ (240 < t.size) ∧ ¬ (k < 1) ∧ ¬ (255 < k) ∧ ¬ (n < 0) ∧ 4294967295 < n := h
  have hb1 := alloc_below (w := w) (.cells #[.int .i64 k, .int .i64 n, .string t] 23)
  have hx1 := Has.made w 23 #[.int .i64 k, .int .i64 n, .string t]
  have hal := alive7_any (w.alloc (.cells #[.int .i64 k, .int .i64 n, .string t] 23))
  have HB := Lib.hid hb1
  have d0 := hx1.cell 0
  have d1 := hx1.cell 1
  have d2 := hx1.cell 2
  simp at d0 d1 d2
  have g1 : decide (most < 3) = false := by simp; omega
  have g2 : decide (40 < most) = false := by simp; omega
  have g3 : decide ((240 : Int) < (t.size : Int)) = false := by simp; omega
  have g4 : decide (k < 1) = false := by simp; omega
  have g5 : decide (255 < k) = false := by simp; omega
  have g6 : decide (n < 0) = false := by simp; omega
  have g7 : decide (4294967295 < n) = true := by simp; omega
  clear hb1 hx1 h
  go_enter Tryz.func6, Tryz.ntmps6
  go_wp2_with fail
  refine hal.mono ?_
  rintro e w1 ⟨rfl, hb⟩
  have HB1 := Lib.hid hb
  clear hal hb
  go_wp2_with fail
  go_ret
  exact ⟨rfl, HB.out.trans (HB1.out.mono HB.out.size)⟩

theorem walk (w : World) (most : Int) (_h : IsInt most) (k n : Int) (t : ByteArray) (_hk : IsInt k) (_hn : IsInt n) (hs : t.size ≤ 9223372036854775807) :
    Calls Tryz.prog 6 #[.int .i64 most, .agg #[.int .i64 k, .int .i64 n, .string t]] w fun e w' => e = .returned (.bool true) ∧ Below w.heap.size w w' := by
  by_cases c0 : most < 3
  · exact walk_out0 w most k n t hs (show most < 3 by omega)
  by_cases c1 : 40 < most
  · exact walk_out1 w most k n t hs (show ¬ (most < 3) ∧ 40 < most by omega)
  by_cases c2 : 240 < t.size
  · exact walk_out2 w most k n t hs (show ¬ (most < 3) ∧ ¬ (40 < most) ∧ 240 < t.size by omega)
  by_cases c3 : k < 1
  · exact walk_out3 w most k n t hs (show ¬ (most < 3) ∧ ¬ (40 < most) ∧ ¬ (240 < t.size) ∧ k < 1 by omega)
  by_cases c4 : 255 < k
  · exact walk_out4 w most k n t hs (show ¬ (most < 3) ∧ ¬ (40 < most) ∧ ¬ (240 < t.size) ∧ ¬ (k < 1) ∧ 255 < k by omega)
  by_cases c5 : n < 0
  · exact walk_out5 w most k n t hs (show ¬ (most < 3) ∧ ¬ (40 < most) ∧ ¬ (240 < t.size) ∧ ¬ (k < 1) ∧ ¬ (255 < k) ∧ n < 0 by omega)
  by_cases c6 : 4294967295 < n
  · exact walk_out6 w most k n t hs (show ¬ (most < 3) ∧ ¬ (40 < most) ∧ ¬ (240 < t.size) ∧ ¬ (k < 1) ∧ ¬ (255 < k) ∧ ¬ (n < 0) ∧ 4294967295 < n by omega)
  exact walk_whole w most k n t (by omega) (by omega) (by omega) (by omega) (by omega)

set_option maxRecDepth 100000 in
theorem contract (H : Type) (enc : TypeId × Value → H) (W : World) (base : Nat) (args : Array Value) (ds gs : List (DataW H)) (before : List MemPlace)
    (hval : ∀ (j : Nat) t v, Tryz.f6.params[j]? = some t → args[j]? = some v → Value.okWide Tryz.prog W .any base t v)
    (hW : DataW.Whole enc Tryz.prog Tryz.f6.params.toList Rows.pagerFullSpec.vars false W args.toList ds gs before) (_hL : laidMetH Tryz.prog Rows.pagerFullRow.laid W) :
    Calls Tryz.prog 6 args W fun e W' => ∃ v, e = .returned v ∧ Rows.pagerFullSpec.post enc Tryz.prog Tryz.f6 false true false false W args v W' := by
  have hW' := hW
  obtain ⟨p, q, hA0, hV, rfl, hfz, hnd⟩ := hW
  have hA : DataW.TrodAll enc Tryz.prog W 0 (fun _ => true) true Tryz.f6.params.toList args.toList ds p := hA0
  rw [Tryz.params6] at hA hval
  obtain ⟨v0, vs0, d0, ds0, p0, q0, hargs, rfl, rfl, h0, r00⟩ := trodAll_cons hA
  obtain ⟨v1, vs1, d1, ds1, p1, q1, rfl, rfl, rfl, h1, r01⟩ := trodAll_cons r00
  obtain ⟨rfl, rfl, rfl⟩ := trodAll_nil r01
  obtain rfl : args = #[v0, v1] := by cases args; simp_all
  obtain ⟨rfl, rfl⟩ := trodVars_none hV
  obtain ⟨n0, rfl, rfl, rfl, w0⟩ := open_int Tryz.underlying3 (hval 0 3 v0 rfl rfl) h0
  obtain ⟨k1, x1, s1, rfl, rfl, rfl, a1, b1, z1⟩ := open_page (hval 1 23 v1 rfl rfl) h1
  clear hA0
  refine (walk W n0 (isInt_of_wf w0) k1 x1 s1 (isInt_of_wf a1) (isInt_of_wf b1) (le_of_maxLen z1)).mono fun e W' ⟨he, hb⟩ => ?_
  subst he
  exact ⟨_, rfl, law_post hW' rfl rfl (by kernel_rfl) (by kernel_rfl) hb⟩

theorem reads (os : Os) {H : Type} (enc : TypeId × Value → H) : ∃ places, DataW.whole enc Tryz.prog ((laidWorld os).forCall (fun _ _ => 0) ⟨#[], #[.int .i64 0, .agg #[.int .i64 0, .int .i64 0, .string ByteArray.empty]], []⟩).memory Tryz.f6.params.toList Rows.pagerFullSpec.vars false (#[.int .i64 0, .agg #[.int .i64 0, .int .i64 0, .string ByteArray.empty]] : Array Value).toList 8 = some ([.lit (.int .i64 0), .agg [.lit (.int .i64 0), .lit (.int .i64 0), .lit (.string [])]], [], places) :=
  ⟨[], by kernel_rfl⟩

set_option maxRecDepth 100000 in
theorem lifted (os : Os) (started : os.Started) (H : Type) (enc : TypeId × Value → H) (F : Stop.Interp) :
    ReturnsInHanded {} Tryz.checked os 6 .any ((OpenSpec.ofChange Rows.pagerFullSpec).preRow enc Tryz.prog Tryz.f6 Rows.pagerFullRow.domain false Rows.pagerFullRow.laid) (((OpenSpec.ofChange Rows.pagerFullSpec).at F).post enc Tryz.prog Tryz.f6 false true false false) := by
  obtain ⟨places, hx⟩ := reads os enc
  refine returnsInHanded_of_row (C := Tryz.checked) (s := OpenSpec.ofChange Rows.pagerFullSpec) own started (by kernel_rfl) Tryz.func6
    (witness_row_at (enc := enc) (C := Tryz.checked) false (laidWorld os) #[.int .i64 0, .agg #[.int .i64 0, .int .i64 0, .string ByteArray.empty]] (laid_os os) (by kernel_rfl) (by kernel_rfl) (by kernel_rfl)
      (OpenSpec.preRow_of_cond 8 hx (by kernel_rfl) (fun k hk => by cases hk) (by kernel_rfl) (laid_met os _))) ?_
  intro W base args ds gs before hval hW _ _ _ hL _ _
  exact contract H enc W base args ds gs before hval hW hL

set_option maxRecDepth 100000 in
theorem said : Rows.PagerFullSaid :=
  OpenClaim.holds_of_cond 6 Tryz.f6 rfl rfl rfl rfl rfl rfl rfl ⟨rfl, rfl, rfl, rfl, rfl⟩ rfl rfl rfl rfl rfl (by kernel_rfl) Tryz.func6 (by kernel_rfl)
    (of_decide_eq_true (by kernel_rfl)) (by unfold Func.isWrapper; first | (rw [if_pos (by decide +kernel)]; kernel_rfl) | (rw [if_neg (by decide +kernel)]; exact ⟨rfl, rfl⟩))
    (fun os started H enc _ F => by rw [OpenClaim.pre_eq_preRow]; exact lifted os started H enc F)

set_option maxRecDepth 100000 in
theorem plain (f : FuncId) (fn : Func) (hf : Tryz.pinned.checked.prog.funcNamed "arboretum/arboretumlaw7.PagerFull" = some f) (hfn : Tryz.pinned.checked.prog.funcs[f]? = some fn) :
    true = Tryz.pinned.checked.prog.looks [] ∧ ∀ (j : Nat) t, fn.params[j]? = some t → Tryz.pinned.checked.prog.wantsStandIn t = false := by
  obtain rfl : f = 6 := Option.some.inj ((show Tryz.prog.funcNamed "arboretum/arboretumlaw7.PagerFull" = some 6 by kernel_rfl).symm.trans hf) |>.symm
  obtain rfl : fn = Tryz.f6 := (Option.some.inj (Tryz.func6.symm.trans hfn)).symm
  refine ⟨by kernel_rfl, fun j t ht => ?_⟩
  rw [Tryz.params6] at ht
  have hm : t ∈ [3, 23] := by simpa using Array.mem_of_getElem? ht
  have hall : ([3, 23].all fun u => !Tryz.prog.wantsStandIn u) = true := by kernel_rfl
  exact (show Tryz.prog.wantsStandIn t = false by simpa using List.all_eq_true.1 hall t hm)

theorem card : Rows.PagerFullCardSaid :=
  Claim7.holds_tied_plain_at .later [] _ _ _ _ said (fun _ h => by cases h) (by kernel_rfl) (fun _ h => by cases h) pagerFull_row_tie rfl ⟨rfl, rfl⟩ (by kernel_rfl) rfl plain (by kernel_rfl)

end Go.Proofs.YtmcfldcpmjdfbaaGreatDoor.pagerFull
