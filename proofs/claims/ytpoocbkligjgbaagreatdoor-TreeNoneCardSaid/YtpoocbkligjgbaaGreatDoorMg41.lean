/-
  TreeNone's walk: of a nil pager a tree's calls answer ErrArg and nothing; of a page that is none of a tree they answer ErrCorrupt, and nothing is put; for every key, value and page. Conditions: the variables that the row lists are laid as its card says.
-/
import Derived.Test.YtpoocbkligjgbaaGreatDoorMg39
import Derived.Test.YtpoocbkligjgbaaGreatDoorMg40
namespace Go.Proofs.YtpoocbkligjgbaaGreatDoor.treeNone
open Go.RowKit Go.Sort Go.Lib Go.ChangeShapes Go.WideShapes Go.ChangeAt

set_option maxRecDepth 1000000 in
set_option maxHeartbeats 4000000 in
theorem walk_long (w : World) (key value : ByteArray) (k n : Int) (t : ByteArray) (h : 300 < t.size ∨ 300 < key.size ∨ 3000 < value.size) :
    Calls Tryz.prog 4 #[.string key, .string value, .agg #[.int .i64 k, .int .i64 n, .string t]] w fun e w' => e = .returned (.bool true) ∧ Below w.heap.size w w' := by
  have hba := alloc_below (w := w) (.cells #[.int .i64 k, .int .i64 n, .string t] 60)
  have hal := alive11_any (w.alloc (.cells #[.int .i64 k, .int .i64 n, .string t] 60))
  have HB := Lib.hid hba
  clear hba
  by_cases h1 : 300 < t.size
  · have g1 : decide ((300 : Int) < (t.size : Int)) = true := by simp; omega
    clear h h1
    go_enter Tryz.func4, Tryz.ntmps4
    go_wp2_with fail
    refine hal.mono ?_
    rintro e w1 ⟨rfl, hb⟩
    have H1 := Lib.hid (HB.out.trans (hb.mono HB.out.size))
    clear hal hb
    go_wp2_with fail
    go_ret
    exact ⟨rfl, H1.out⟩
  · have g1 : decide ((300 : Int) < (t.size : Int)) = false := by simp; omega
    by_cases h2 : 300 < key.size
    · have g2 : decide ((300 : Int) < (key.size : Int)) = true := by simp; omega
      clear h h1 h2
      go_enter Tryz.func4, Tryz.ntmps4
      go_wp2_with fail
      refine hal.mono ?_
      rintro e w1 ⟨rfl, hb⟩
      have H1 := Lib.hid (HB.out.trans (hb.mono HB.out.size))
      clear hal hb
      go_wp2_with fail
      go_ret
      exact ⟨rfl, H1.out⟩
    · have g2 : decide ((300 : Int) < (key.size : Int)) = false := by simp; omega
      have g3 : decide ((3000 : Int) < (value.size : Int)) = true := by simp; omega
      clear h h1 h2
      go_enter Tryz.func4, Tryz.ntmps4
      go_wp2_with fail
      refine hal.mono ?_
      rintro e w1 ⟨rfl, hb⟩
      have H1 := Lib.hid (HB.out.trans (hb.mono HB.out.size))
      clear hal hb
      go_wp2_with fail
      go_ret
      exact ⟨rfl, H1.out⟩

set_option maxRecDepth 1000000 in
set_option maxHeartbeats 8000000 in
theorem walk_short (w : World) (key value : ByteArray) (k n : Int) (t : ByteArray) (hk : IsInt k) (hn : IsInt n) (h1 : t.size ≤ 300) (h2 : key.size ≤ 300) (h3 : value.size ≤ 3000) :
    Calls Tryz.prog 4 #[.string key, .string value, .agg #[.int .i64 k, .int .i64 n, .string t]] w fun e w' => e = .returned (.bool true) ∧ Below w.heap.size w w' := by
  have hba := alloc_below (w := w) (.cells #[.int .i64 k, .int .i64 n, .string t] 60)
  have hX := Has.made w 60 #[.int .i64 k, .int .i64 n, .string t]
  obtain ⟨B, hB⟩ : ∃ B, w.heap.size = B := ⟨_, rfl⟩
  rw [hB] at hX
  have g1 : decide ((300 : Int) < (t.size : Int)) = false := by simp; omega
  have g2 : decide ((300 : Int) < (key.size : Int)) = false := by simp; omega
  have g3 : decide ((3000 : Int) < (value.size : Int)) = false := by simp; omega
  have hc := trnew_nil (w.alloc (.cells #[.int .i64 k, .int .i64 n, .string t] 60))
  have H := Lib.hid (And.intro hba hX)
  have HT := Lib.hid (And.intro h1 (And.intro hk hn))
  clear hba hX h1 h2 h3 hk hn
  go_enter Tryz.func4, Tryz.ntmps4
  go_wp2_with fail
  clear g1 g2 g3
  refine hc.mono ?_
  rintro e w1 ⟨rfl, hb⟩
  have H1 := Lib.hid (And.intro (H.out.1.trans (hb.mono H.out.1.size)) (H.out.2.below hb H.out.2.inside))
  clear hc hb H
  have hc := trget_err ⟨#[107]⟩ (by decide) (noLd_nil 2 w1)
  go_wp2_with fail
  refine hc.mono ?_
  rintro e w2 ⟨rfl, hb⟩
  have H2 := Lib.hid (And.intro (H1.out.1.trans (hb.mono H1.out.1.size)) (H1.out.2.below hb H1.out.2.inside))
  clear hc hb H1
  have hc := trput_err ⟨#[107]⟩ ⟨#[118]⟩ (by decide) (by decide) (noLd_nil 2 w2)
  go_wp2_with fail
  refine hc.mono ?_
  rintro e w3 ⟨rfl, hb⟩
  have H3 := Lib.hid (And.intro (H2.out.1.trans (hb.mono H2.out.1.size)) (H2.out.2.below hb H2.out.2.inside))
  clear hc hb H2
  have hc := trdel_err ⟨#[107]⟩ (by decide) (noLd_nil 2 w3)
  go_wp2_with fail
  refine hc.mono ?_
  rintro e w4 ⟨rfl, hb⟩
  have H4 := Lib.hid (And.intro (H3.out.1.trans (hb.mono H3.out.1.size)) (H3.out.2.below hb H3.out.2.inside))
  clear hc hb H3
  have hc := trpages_err (noLd_nil 2 w4)
  go_wp2_with fail
  refine hc.mono ?_
  rintro e w5 ⟨rfl, hb⟩
  have H5 := Lib.hid (And.intro (H4.out.1.trans (hb.mono H4.out.1.size)) (H4.out.2.below hb H4.out.2.inside))
  clear hc hb H4
  have hc := trheight_err (noLd_nil 2 w5)
  go_wp2_with fail
  refine hc.mono ?_
  rintro e w6 ⟨rfl, hb⟩
  have H6 := Lib.hid (And.intro (H5.out.1.trans (hb.mono H5.out.1.size)) (H5.out.2.below hb H5.out.2.inside))
  clear hc hb H5
  have hc := trcount_err (noLd_nil 2 w6)
  go_wp2_with fail
  refine hc.mono ?_
  rintro e w7 ⟨rfl, hb⟩
  have H7 := Lib.hid (And.intro (H6.out.1.trans (hb.mono H6.out.1.size)) (H6.out.2.below hb H6.out.2.inside))
  clear hc hb H6
  have hc := trdrop_err (noLd_nil 2 w7)
  go_wp2_with fail
  refine hc.mono ?_
  rintro e w8 ⟨rfl, hb⟩
  have H8 := Lib.hid (And.intro (H7.out.1.trans (hb.mono H7.out.1.size)) (H7.out.2.below hb H7.out.2.inside))
  clear hc hb H7
  have hbg := begin11_ok (w := w8) 30 (by omega) (by omega)
  obtain ⟨o1, -, -⟩ := one_new 30 (by omega) (by omega)
  generalize mkS (newPg (longer (newS 30) 2) [] 0 [] [] 2 1) 2 0 ⟨#[]⟩ = s1 at *
  have HO := Lib.hid o1
  clear o1
  go_wp2_with fail
  refine hbg.mono ?_
  rintro e w9 ⟨pd, pf, p, b, rfl, hr⟩
  obtain ⟨F, hp, hFge, hbr⟩ := hr
  have hX9 := H8.out.2.below hbr H8.out.2.inside
  have hmk := gmake_y k n t HO.out.yg HT.out.2.1 HT.out.2.2 (by have := HT.out.1; omega) (by have := HO.out.n; omega) hp
  have x0 := hX9.cell 0
  have x1 := hX9.cell 1
  have x2 := hX9.cell 2
  simp at x0 x1 x2
  obtain ⟨E, hE⟩ : ∃ E, mkE s1 k n t = E := ⟨_, rfl⟩
  have HE := Lib.hid hE
  rw [hE] at hmk
  have hBF : B ∉ F := fun hF => by have := hFge B hF; have := H8.out.2.inside; omega
  have H9 := Lib.hid (And.intro hFge (And.intro hbr (And.intro hX9 hBF)))
  obtain ⟨ID, hID⟩ : ∃ ID, mkI s1 k n t = ID := ⟨_, rfl⟩
  obtain ⟨S2, hS2⟩ : ∃ S2, mkT s1 k n t = S2 := ⟨_, rfl⟩
  rw [hID, hS2] at hmk
  have HI := Lib.hid (And.intro hID hS2)
  clear hbg hp hFge hbr hX9 hBF hE hID hS2
  go_wp2_with fail
  refine hmk.mono ?_
  rintro e w10 ⟨rfl, F2, hp2, hg2⟩
  obtain ⟨hFge, hbr, hX9, hBF⟩ := H9.out
  have hX10 := hX9.kept hg2.1 hBF
  have hb10 : Below w.heap.size w w10 := H8.out.1.trans ((hbr.trans (hg2.1.below hbr.size hFge)).mono H8.out.1.size)
  have x0 := hX10.cell 0
  simp at x0
  have H10 := Lib.hid (And.intro hb10 hp2)
  clear hFge hbr hX9 hBF hX10 hb10 hp2 hg2 hmk x1 x2
  by_cases hE0 : E = 0
  · subst hE0
    by_cases k2 : k = 2
    · have g2 : (k == 2) = true := by simpa using k2
      clear k2
      have hal := alive11_any w10
      go_wp2_with fail
      refine hal.mono ?_
      rintro e w11 ⟨rfl, hb⟩
      have H11 := Lib.hid (H10.out.1.trans (hb.mono H10.out.1.size))
      clear hal hb
      go_wp2_with fail
      go_ret
      exact ⟨rfl, H11.out⟩
    · have g2 : (k == 2) = false := by simpa using k2
      by_cases k3 : k = 3
      · have g3 : (k == 3) = true := by simpa using k3
        clear k2 k3
        have hal := alive11_any w10
        go_wp2_with fail
        refine hal.mono ?_
        rintro e w11 ⟨rfl, hb⟩
        have H11 := Lib.hid (H10.out.1.trans (hb.mono H10.out.1.size))
        clear hal hb
        go_wp2_with fail
        go_ret
        exact ⟨rfl, H11.out⟩
      · have g3 : (k == 3) = false := by simpa using k3
        have hm := HE.out
        have e1 : ID = cand s1 := by rw [← HI.out.1]; unfold mkI; rw [if_pos hm]
        have e2 : S2 = mkS s1 k n t := by rw [← HI.out.2]; unfold mkT; rw [if_pos hm]
        have hy2 : Yg S2 := by rw [e2]; exact HO.out.yg.made hm
        have hH : S2.H ID = ⟨1, k, n, t⟩ := by rw [e1, e2]; exact mkS_new HO.out.yg k n t
        have hf : (S2.H ID).fate = 1 := by rw [hH]
        have hpl := hy2.place (.inl hf)
        have hid : IsInt ID := by have := hy2.most; have := hy2.few; unfold IsInt; omega
        have hrd : rdE S2 ID = 0 := by unfold rdE; rw [if_neg (by omega), if_pos hf]
        have hop : opn k t = none := by unfold opn; rw [if_neg k2, if_neg k3]
        have hlo : ldO k n t 1 = none := by unfold ldO; rw [hop]; rfl
        have hln : ldN S2 ID 1 = none := by unfold ldN; rw [if_pos hrd, hH]; exact hlo
        have hle : ldE S2 ID 1 = 15 := by unfold ldE; rw [if_neg (by rw [hrd]; simp), hH, if_pos hlo]
        have hno := noLd_corrupt hid hy2 H10.out.2 hln
        rw [hle] at hno
        have HN := Lib.hid hno
        have hc := trget_err ⟨#[107]⟩ (by decide) hno
        clear hm e1 e2 hy2 hH hf hpl hid hrd hop hlo hln hle hno k2 k3
        go_wp2_with fail
        refine hc.mono ?_
        rintro e w11 ⟨rfl, hb⟩
        have H11 := Lib.hid (And.intro (H10.out.1.trans (hb.mono H10.out.1.size)) (HN.out.below hb))
        clear hc hb
        have hc := trput_err ⟨#[107]⟩ ⟨#[118]⟩ (by decide) (by decide) H11.out.2
        go_wp2_with fail
        refine hc.mono ?_
        rintro e w12 ⟨rfl, hb⟩
        have H12 := Lib.hid (And.intro (H11.out.1.trans (hb.mono H11.out.1.size)) (H11.out.2.below hb))
        clear hc hb
        have hc := trheight_err H12.out.2
        go_wp2_with fail
        refine hc.mono ?_
        rintro e w13 ⟨rfl, hb⟩
        have H13 := Lib.hid (And.intro (H12.out.1.trans (hb.mono H12.out.1.size)) (H12.out.2.below hb))
        clear hc hb
        have hal := alive11_any w13
        go_wp2_with fail
        refine hal.mono ?_
        rintro e w14 ⟨rfl, hb⟩
        have H14 := Lib.hid (And.intro (H13.out.1.trans (hb.mono H13.out.1.size)) (H13.out.2.below hb))
        clear hal hb
        have hc := trdrop_err H14.out.2
        go_wp2_with fail
        refine hc.mono ?_
        rintro e w15 ⟨rfl, hb⟩
        have H15 := Lib.hid (H14.out.1.trans (hb.mono H14.out.1.size))
        clear hc hb
        go_wp2_with fail
        go_ret
        exact ⟨rfl, H15.out⟩
  · have g0 : (E != 0) = true := by simpa using hE0
    clear hE0
    have hal := alive11_any w10
    go_wp2_with fail
    refine hal.mono ?_
    rintro e w11 ⟨rfl, hb⟩
    have H11 := Lib.hid (H10.out.1.trans (hb.mono H10.out.1.size))
    clear hal hb
    go_wp2_with fail
    go_ret
    exact ⟨rfl, H11.out⟩

theorem walk (w : World) (key : ByteArray) (_h1 : key.size ≤ 9223372036854775807) (value : ByteArray) (_h2 : value.size ≤ 9223372036854775807) (k n : Int) (t : ByteArray) (hk : IsInt k) (hn : IsInt n) (_hs : t.size ≤ 9223372036854775807) :
    Calls Tryz.prog 4 #[.string key, .string value, .agg #[.int .i64 k, .int .i64 n, .string t]] w fun e w' => e = .returned (.bool true) ∧ Below w.heap.size w w' := by
  by_cases h : 300 < t.size ∨ 300 < key.size ∨ 3000 < value.size
  · exact walk_long w key value k n t h
  · exact walk_short w key value k n t hk hn (by omega) (by omega) (by omega)

end Go.Proofs.YtpoocbkligjgbaaGreatDoor.treeNone
