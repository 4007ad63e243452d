/-
  Walks over package leaf: read.
-/
import Derived.Test.YtpfifmjcmpankaaGreatMg15
namespace Go.Proofs.YtpfifmjcmpankaaGreat
open Go.RowKit Go.Lib

theorem Rd.kept {F : List Nat} {w w' : World} {b : Nat} {l : List UInt8} {n : Int} (h : Rd w b l n) (k : Kept F w w') (hb : b ∉ F) : Rd w' b l n := by
  obtain ⟨s, h1, h2, h3⟩ := h
  exact ⟨s, h1, h2, h3.kept k hb⟩
theorem rtext_rest (most : Int) (l : List UInt8) : (rtext most l).2.1.length ≤ l.length := by
  have := rcount_rest most l
  unfold rtext
  split
  · exact this
  · split
    · exact this
    · simp only [List.length_drop]; omega
theorem rbool_rest (l : List UInt8) : (rbool l).2.1.length ≤ l.length := by
  unfold rbool
  split
  · simp
  · split <;> simp
theorem rtext_no {most : Int} {l : List UInt8} (h : (rtext most l).2.2 ≠ 0) : (rtext most l).1 = [] := by
  unfold rtext at h ⊢
  split
  · rfl
  · rename_i h1
    rw [if_neg h1] at h
    split
    · rfl
    · rename_i h2
      rw [if_neg h2] at h
      simp at h
theorem rbool_no {l : List UInt8} (h : (rbool l).2.2 ≠ 0) : (rbool l).1 = false := by
  unfold rbool at h ⊢
  split
  · rfl
  · rename_i c r
    simp only at h
    split at h
    · rename_i h2; rw [if_pos h2]
    · simp at h
theorem rvar_no {l : List UInt8} (h : (rvar l).2.2 ≠ 0) : (rvar l).1 = 0 := by
  unfold rvar at h ⊢
  split
  · rename_i h2
    rw [if_pos h2] at h
    simp at h
  · rfl

abbrev zeroI : Array Value := #[.string ⟨#[]⟩, .string ⟨#[]⟩, .int .i64 0, .int .i64 0]
theorem kept_first {w w1 : World} {b : Nat} {o : Obj} (h : (w.alloc o).grownBy w1 (some b)) : Kept [b] w w1 :=
  ((Kept.refl [b] w).alloc o).trans (Kept.of_grown h (fun k hk => by cases hk; simp))
def fin4 (W : World) (z : Nat) (x : Itm) : World := (((W.setCell ⟨z, 0, none⟩ (.string x.key)).setCell ⟨z, 1, none⟩ (.string x.val)).setCell ⟨z, 2, none⟩ (.int .i64 x.over)).setCell ⟨z, 3, none⟩ (.int .i64 x.size)
theorem fin4_is {w W : World} {b : Nat} {l : List UInt8} {n : Int} {z : Nat} {a0 a1 a2 a3 : Value} (hz : Has W z 24 #[a0, a1, a2, a3]) (hrd : Rd W b l n) (hk : Kept [b] w W) (hzb : b ≠ z) (hzw : w.heap.size ≤ z) (x : Itm) :
    Has (fin4 W z x) z 24 #[.string x.key, .string x.val, .int .i64 x.over, .int .i64 x.size] ∧ Rd (fin4 W z x) b l n ∧ Kept [b] w (fin4 W z x) := by
  have h1 := (((hz.put 0 (.string x.key)).put 1 (.string x.val)).put 2 (.int .i64 x.over)).put 3 (.int .i64 x.size)
  have hkz : Kept [z] W (fin4 W z x) := ((((Kept.refl [z] W).setCell (p := ⟨z, 0, none⟩) (.inl (by simp)) _).setCell (p := ⟨z, 1, none⟩) (.inl (by simp)) _).setCell (p := ⟨z, 2, none⟩) (.inl (by simp)) _).setCell (p := ⟨z, 3, none⟩) (.inl (by simp)) _
  refine ⟨by simpa [fin4] using h1, hrd.kept hkz (by simpa using hzb), ?_⟩
  exact (((hk.setCell (p := ⟨z, 0, none⟩) (.inr hzw) _).setCell (p := ⟨z, 1, none⟩) (.inr hzw) _).setCell (p := ⟨z, 2, none⟩) (.inr hzw) _).setCell (p := ⟨z, 3, none⟩) (.inr hzw) _
theorem past_fin {w W : World} {b z g i : Nat} {l : List UInt8} {n : Int} {a : Array Value} (hz : Has W z 24 a) (hrd : Rd W b l n) (hk : Kept [b] w W) (hgz : z ≠ g) (hgb : b ≠ g) (hgw : w.heap.size ≤ g) (u : Value) :
    Has (W.setCell ⟨g, i, none⟩ u) z 24 a ∧ Rd (W.setCell ⟨g, i, none⟩ u) b l n ∧ Kept [b] w (W.setCell ⟨g, i, none⟩ u) :=
  ⟨hz.past (by exact hgz) u, hrd.kept ((Kept.refl [g] W).setCell (p := ⟨g, i, none⟩) (.inl (by simp)) u) (by simpa using hgb), hk.setCell (p := ⟨g, i, none⟩) (.inr hgw) u⟩
/-- What read comes to. -/
def ReadTo8 (w : World) (b : Nat) (r : Itm × List UInt8 × Int) (e : Ending) (w' : World) : Prop := e = .returned (iagg r.1) ∧ Rd w' b r.2.1 r.2.2 ∧ Kept [b] w w'

set_option maxRecDepth 100000 in
set_option maxHeartbeats 1000000 in
theorem read_any (b : Nat) (bs : List UInt8) (w : World) (h : Rd w b bs 0) (hlen : bs.length ≤ 281474976710656) :
    Calls Tryz.prog 61 #[.pointer (some ⟨b, 0, none⟩)] w (ReadTo8 w b (getItem bs)) := by
  have hin := h.inside
  have hra := fun W hW => rtext_any b bs 40 W hW hlen
  have hrest := rtext_rest 40 bs
  have hno := rtext_no (most := 40) (l := bs)
  obtain ⟨k, l1, n1, hk⟩ : ∃ k l1 n1, rtext 40 bs = (k, l1, n1) := ⟨_, _, _, rfl⟩
  have hgi : getItem bs = if n1 ≠ 0 then (⟨⟨#[]⟩, ⟨#[]⟩, 0, 0⟩, l1, n1) else getItem bs := by
    split
    · rename_i hn
      unfold getItem
      rw [hk]
      simp only [if_pos hn]
    · rfl
  rw [hk] at hra hrest hno
  simp only at hra hrest hno
  have h0 : Rd (w.alloc (.cells #[.string ⟨#[]⟩, .string ⟨#[]⟩, .int .i64 0, .int .i64 0] 24)) b bs 0 := h.below ((Below.refl w.heap.size w).alloc (Nat.le_refl _) _) hin
  by_cases hn : n1 = 0
  · obtain rfl : n1 = 0 := hn
    clear hgi hno
    have hbr := rbool_rest l1
    have hbn := rbool_no (l := l1)
    have hba := fun W hW => rbool_any b l1 W hW
    obtain ⟨e2, l2, n2, hbk⟩ : ∃ e l2 n2, rbool l1 = (e, l2, n2) := ⟨_, _, _, rfl⟩
    rw [hbk] at hbr hbn hba
    simp only at hbr hbn hba
    have HR := Lib.hid (hra _ h0)
    clear hra
    by_cases hn2 : n2 = 0
    · obtain rfl : n2 = 0 := hn2
      have hl2 : l2.length ≤ 281474976710656 := by omega
      cases e2
      · have hta := fun W hW => rtext_any b l2 60 W hW hl2
        obtain ⟨v, l3, n3, ht3⟩ : ∃ v l3 n3, rtext 60 l2 = (v, l3, n3) := ⟨_, _, _, rfl⟩
        rw [ht3] at hta
        simp only at hta
        have e1 : getItem bs = (⟨⟨k.toArray⟩, ⟨v.toArray⟩, 0, 0⟩, l3, n3) := by
          unfold getItem
          rw [hk]
          simp only [ne_eq, not_true, if_false]
          rw [hbk]
          simp only [not_true, if_false, Bool.false_eq_true, ht3]
        rw [e1]
        generalize (⟨k.toArray⟩ : ByteArray) = kS at *
        generalize (⟨v.toArray⟩ : ByteArray) = vS at *
        have HB := Lib.hid hba
        have HT := Lib.hid hta
        clear hba hbn hbk hk e1 hta ht3
        go_enter Tryz.func61, Tryz.ntmps61
        go_wp2_with fail
        refine HR.out.mono ?_
        rintro e w1 ⟨rfl, hrd1, hg1⟩
        have hz : Has w1 w.heap.size 24 zeroI := (Has.made w 24 zeroI).grown hg1 (fun e => by cases e; omega)
        have hs1 : w.heap.size < w1.heap.size := hz.inside
        have k0 := kept_first hg1
        have hrd2 : Rd (w1.alloc (.cells #[.string kS, .string ⟨#[]⟩, .int .i64 0, .int .i64 0] 24)) b l1 0 := hrd1.below ((Below.refl w1.heap.size w1).alloc (Nat.le_refl _) _) (by omega)
        have hE1 := HB.out _ hrd2
        have HH := Lib.hid (And.intro k0 hz)
        clear hz hrd2 hrd1 hg1 k0 HR HB
        go_wp2_with fail
        refine hE1.mono ?_
        rintro e w2 ⟨rfl, hrd3, hg2⟩
        have hz2 : Has w2 w.heap.size 24 zeroI := (HH.out.2.alloc _).grown hg2 (fun e => by cases e; omega)
        have hy2 : Has w2 w1.heap.size 24 #[.string kS, .string ⟨#[]⟩, .int .i64 0, .int .i64 0] := (Has.made w1 24 _).grown hg2 (fun e => by cases e; omega)
        have k2 : Kept [b] w w2 := (HH.out.1.alloc _).trans (Kept.of_grown hg2 (fun k hk => by cases hk; simp))
        clear hE1 hg2 HH
        have hE2 := HT.out _ hrd3
        clear hrd3 HT
        go_wp2_with fail
        refine hE2.mono ?_
        rintro e w3 ⟨rfl, hrd4, hg3⟩
        have hz3 : Has w3 w.heap.size 24 zeroI := hz2.grown hg3 (fun e => by cases e; omega)
        have hy3 : Has w3 w1.heap.size 24 #[.string kS, .string ⟨#[]⟩, .int .i64 0, .int .i64 0] := hy2.grown hg3 (fun e => by cases e; omega)
        have k3 : Kept [b] w w3 := k2.trans (Kept.of_grown hg3 (fun k hk => by cases hk; simp))
        clear hE2 hg3 hz2 hy2 k2
        have z0 := hz3.cell 0
        have z1 := hz3.cell 1
        have z2 := hz3.cell 2
        have z3 := hz3.cell 3
        have y0 := hz3.free 0
        have y1 := hz3.free 1
        have y2 := hz3.free 2
        have y3 := hz3.free 3
        have x0 := hy3.cell 0
        have x1 := hy3.cell 1
        have x2 := hy3.cell 2
        have x3 := hy3.cell 3
        have v1 := hy3.free 1
        have v2 := hy3.free 2
        have v3 := hy3.free 3
        simp [zeroI] at z0 z1 z2 z3 x0 x1 x2 x3
        have HH := Lib.hid (And.intro hrd4 (And.intro k3 (And.intro hz3 hy3)))
        clear hrd4 k3 hz3 hy3
        go_wp2_with fail
        obtain ⟨h1, h2, h3, h4⟩ := HH.out
        obtain ⟨p1, p2, p3⟩ := past_fin (w := w) (g := w1.heap.size) (i := 1) h3 h1 h2 (by omega) (by omega) (by omega) (.string vS)
        have hfin := fin4_is (w := w) p1 p2 p3 (by omega) (Nat.le_refl _) ⟨kS, vS, 0, 0⟩
        change bodyPost Tryz.prog Tryz.f61 _ Exit.ret _ (fin4 (w3.setCell ⟨w1.heap.size, 1, none⟩ (.string vS)) w.heap.size ⟨kS, vS, 0, 0⟩)
        obtain ⟨f1, f2, f3⟩ := hfin
        generalize fin4 (w3.setCell ⟨w1.heap.size, 1, none⟩ (.string vS)) w.heap.size ⟨kS, vS, 0, 0⟩ = W4 at *
        have d0 := f1.cell 0
        have d1 := f1.cell 1
        have d2 := f1.cell 2
        have d3 := f1.cell 3
        simp at d0 d1 d2 d3
        exact bodyPost_ret (v := iagg ⟨kS, vS, 0, 0⟩) (by simp [results, Tryz.results61, go_sem, d0, d1, d2, d3]; try rfl) rfl ⟨rfl, f2, f3⟩
      · have hva := fun W hW => rvar_any b l2 W hW
        have hvn := rvar_no (l := l2)
        obtain ⟨o, l3, n3, hv3⟩ : ∃ o l3 n3, rvar l2 = (o, l3, n3) := ⟨_, _, _, rfl⟩
        rw [hv3] at hva hvn
        simp only at hva hvn
        by_cases hn3 : n3 = 0
        · obtain rfl : n3 = 0 := hn3
          have hvb := fun W hW => rvar_any b l3 W hW
          obtain ⟨s, l4, n4, hv4⟩ : ∃ s l4 n4, rvar l3 = (s, l4, n4) := ⟨_, _, _, rfl⟩
          rw [hv4] at hvb
          simp only at hvb
          have e1 : getItem bs = (⟨⟨k.toArray⟩, ⟨#[]⟩, o, s⟩, l4, n4) := by
            unfold getItem
            rw [hk]
            simp only [ne_eq, not_true, if_false]
            rw [hbk]
            simp only [not_true, if_false, if_true, hv3, hv4]
          have HVB := Lib.hid hvb
          clear hvb hvn hv4
          rw [e1]
          generalize (⟨k.toArray⟩ : ByteArray) = kS at *
          have HB := Lib.hid hba
          have HV := Lib.hid hva
          clear hba hbn hbk hk e1 hva hv3
          go_enter Tryz.func61, Tryz.ntmps61
          go_wp2_with fail
          refine HR.out.mono ?_
          rintro e w1 ⟨rfl, hrd1, hg1⟩
          have hz : Has w1 w.heap.size 24 zeroI := (Has.made w 24 zeroI).grown hg1 (fun e => by cases e; omega)
          have hs1 : w.heap.size < w1.heap.size := hz.inside
          have k0 := kept_first hg1
          have hrd2 : Rd (w1.alloc (.cells #[.string kS, .string ⟨#[]⟩, .int .i64 0, .int .i64 0] 24)) b l1 0 := hrd1.below ((Below.refl w1.heap.size w1).alloc (Nat.le_refl _) _) (by omega)
          have hE1 := HB.out _ hrd2
          have HH := Lib.hid (And.intro k0 hz)
          clear hz hrd2 hrd1 hg1 k0 HR HB
          go_wp2_with fail
          refine hE1.mono ?_
          rintro e w2 ⟨rfl, hrd3, hg2⟩
          have hz2 : Has w2 w.heap.size 24 zeroI := (HH.out.2.alloc _).grown hg2 (fun e => by cases e; omega)
          have hy2 : Has w2 w1.heap.size 24 #[.string kS, .string ⟨#[]⟩, .int .i64 0, .int .i64 0] := (Has.made w1 24 _).grown hg2 (fun e => by cases e; omega)
          have k2 : Kept [b] w w2 := (HH.out.1.alloc _).trans (Kept.of_grown hg2 (fun k hk => by cases hk; simp))
          clear hE1 hg2 HH
          have hE2 := HV.out _ hrd3
          clear hrd3 HV
          go_wp2_with fail
          refine hE2.mono ?_
          rintro e w3 ⟨rfl, hrd4, hg3⟩
          have hz3 : Has w3 w.heap.size 24 zeroI := hz2.grown hg3 (fun e => by cases e; omega)
          have hy3 : Has w3 w1.heap.size 24 #[.string kS, .string ⟨#[]⟩, .int .i64 0, .int .i64 0] := hy2.grown hg3 (fun e => by cases e; omega)
          have k3 : Kept [b] w w3 := k2.trans (Kept.of_grown hg3 (fun k hk => by cases hk; simp))
          clear hE2 hg3 hz2 hy2 k2
          have hE3 := HVB.out _ hrd4
          clear hrd4 HVB
          go_wp2_with fail
          refine hE3.mono ?_
          rintro e w4 ⟨rfl, hrd5, hg4⟩
          have hz4 : Has w4 w.heap.size 24 zeroI := hz3.grown hg4 (fun e => by cases e; omega)
          have hy4 : Has w4 w1.heap.size 24 #[.string kS, .string ⟨#[]⟩, .int .i64 0, .int .i64 0] := hy3.grown hg4 (fun e => by cases e; omega)
          have k4 : Kept [b] w w4 := k3.trans (Kept.of_grown hg4 (fun k hk => by cases hk; simp))
          clear hE3 hg4 hz3 hy3 k3
          have z0 := hz4.cell 0
          have z1 := hz4.cell 1
          have z2 := hz4.cell 2
          have z3 := hz4.cell 3
          have y0 := hz4.free 0
          have y1 := hz4.free 1
          have y2 := hz4.free 2
          have y3 := hz4.free 3
          have x0 := hy4.cell 0
          have x1 := hy4.cell 1
          have x2 := hy4.cell 2
          have x3 := hy4.cell 3
          have v1 := hy4.free 1
          have v2 := hy4.free 2
          have v3 := hy4.free 3
          simp [zeroI] at z0 z1 z2 z3 x0 x1 x2 x3
          have HH := Lib.hid (And.intro hrd5 (And.intro k4 (And.intro hz4 hy4)))
          clear hrd5 k4 hz4 hy4
          go_wp2_with fail
          obtain ⟨h1, h2, h3, h4⟩ := HH.out
          obtain ⟨s1, s2, s3⟩ := past_fin (w := w) (g := w1.heap.size) (i := 2) h3 h1 h2 (by omega) (by omega) (by omega) (.int .i64 o)
          obtain ⟨p1, p2, p3⟩ := past_fin (w := w) (g := w1.heap.size) (i := 3) s1 s2 s3 (by omega) (by omega) (by omega) (.int .i64 s)
          have hfin := fin4_is (w := w) p1 p2 p3 (by omega) (Nat.le_refl _) ⟨kS, ⟨#[]⟩, o, s⟩
          change bodyPost Tryz.prog Tryz.f61 _ Exit.ret _ (fin4 ((w4.setCell ⟨w1.heap.size, 2, none⟩ (.int .i64 o)).setCell ⟨w1.heap.size, 3, none⟩ (.int .i64 s)) w.heap.size ⟨kS, ⟨#[]⟩, o, s⟩)
          obtain ⟨f1, f2, f3⟩ := hfin
          generalize fin4 ((w4.setCell ⟨w1.heap.size, 2, none⟩ (.int .i64 o)).setCell ⟨w1.heap.size, 3, none⟩ (.int .i64 s)) w.heap.size ⟨kS, ⟨#[]⟩, o, s⟩ = W4 at *
          have d0 := f1.cell 0
          have d1 := f1.cell 1
          have d2 := f1.cell 2
          have d3 := f1.cell 3
          simp at d0 d1 d2 d3
          exact bodyPost_ret (v := iagg ⟨kS, ⟨#[]⟩, o, s⟩) (by simp [results, Tryz.results61, go_sem, d0, d1, d2, d3]; try rfl) rfl ⟨rfl, f2, f3⟩
        · have ho := hvn hn3
          subst ho
          have e1 : getItem bs = (⟨⟨k.toArray⟩, ⟨#[]⟩, 0, 0⟩, l3, n3) := by
            unfold getItem
            rw [hk]
            simp only [ne_eq, not_true, if_false]
            rw [hbk]
            simp only [not_true, if_false, if_true, hv3, hn3, not_false_eq_true]
          clear hvn
          rw [e1]
          generalize (⟨k.toArray⟩ : ByteArray) = kS at *
          have HB := Lib.hid hba
          have HV := Lib.hid hva
          clear hba hbn hbk hk e1 hva hv3
          go_enter Tryz.func61, Tryz.ntmps61
          go_wp2_with fail
          refine HR.out.mono ?_
          rintro e w1 ⟨rfl, hrd1, hg1⟩
          have hz : Has w1 w.heap.size 24 zeroI := (Has.made w 24 zeroI).grown hg1 (fun e => by cases e; omega)
          have hs1 : w.heap.size < w1.heap.size := hz.inside
          have k0 := kept_first hg1
          have hrd2 : Rd (w1.alloc (.cells #[.string kS, .string ⟨#[]⟩, .int .i64 0, .int .i64 0] 24)) b l1 0 := hrd1.below ((Below.refl w1.heap.size w1).alloc (Nat.le_refl _) _) (by omega)
          have hE1 := HB.out _ hrd2
          have HH := Lib.hid (And.intro k0 hz)
          clear hz hrd2 hrd1 hg1 k0 HR HB
          go_wp2_with fail
          refine hE1.mono ?_
          rintro e w2 ⟨rfl, hrd3, hg2⟩
          have hz2 : Has w2 w.heap.size 24 zeroI := (HH.out.2.alloc _).grown hg2 (fun e => by cases e; omega)
          have hy2 : Has w2 w1.heap.size 24 #[.string kS, .string ⟨#[]⟩, .int .i64 0, .int .i64 0] := (Has.made w1 24 _).grown hg2 (fun e => by cases e; omega)
          have k2 : Kept [b] w w2 := (HH.out.1.alloc _).trans (Kept.of_grown hg2 (fun k hk => by cases hk; simp))
          clear hE1 hg2 HH
          have hE2 := HV.out _ hrd3
          clear hrd3 HV
          go_wp2_with fail
          refine hE2.mono ?_
          rintro e w3 ⟨rfl, hrd4, hg3⟩
          have hz3 : Has w3 w.heap.size 24 zeroI := hz2.grown hg3 (fun e => by cases e; omega)
          have hy3 : Has w3 w1.heap.size 24 #[.string kS, .string ⟨#[]⟩, .int .i64 0, .int .i64 0] := hy2.grown hg3 (fun e => by cases e; omega)
          have k3 : Kept [b] w w3 := k2.trans (Kept.of_grown hg3 (fun k hk => by cases hk; simp))
          clear hE2 hg3 hz2 hy2 k2
          have hE3 := rvar_err b l3 n3 _ hrd4 hn3
          go_wp2_with fail
          refine hE3.mono ?_
          rintro e w4 ⟨rfl, rfl⟩
          have z0 := hz3.cell 0
          have z1 := hz3.cell 1
          have z2 := hz3.cell 2
          have z3 := hz3.cell 3
          have y0 := hz3.free 0
          have y1 := hz3.free 1
          have y2 := hz3.free 2
          have y3 := hz3.free 3
          have x0 := hy3.cell 0
          have x1 := hy3.cell 1
          have x2 := hy3.cell 2
          have x3 := hy3.cell 3
          have v1 := hy3.free 1
          have v2 := hy3.free 2
          have v3 := hy3.free 3
          simp [zeroI] at z0 z1 z2 z3 x0 x1 x2 x3
          have HH := Lib.hid (And.intro hrd4 (And.intro k3 (And.intro hz3 hy3)))
          clear hrd4 k3 hz3 hy3
          go_wp2_with fail
          obtain ⟨h1, h2, h3, h4⟩ := HH.out
          obtain ⟨s1, s2, s3⟩ := past_fin (w := w) (g := w1.heap.size) (i := 2) h3 h1 h2 (by omega) (by omega) (by omega) (.int .i64 0)
          obtain ⟨p1, p2, p3⟩ := past_fin (w := w) (g := w1.heap.size) (i := 3) s1 s2 s3 (by omega) (by omega) (by omega) (.int .i64 0)
          have hfin := fin4_is (w := w) p1 p2 p3 (by omega) (Nat.le_refl _) ⟨kS, ⟨#[]⟩, 0, 0⟩
          change bodyPost Tryz.prog Tryz.f61 _ Exit.ret _ (fin4 ((w3.setCell ⟨w1.heap.size, 2, none⟩ (.int .i64 0)).setCell ⟨w1.heap.size, 3, none⟩ (.int .i64 0)) w.heap.size ⟨kS, ⟨#[]⟩, 0, 0⟩)
          obtain ⟨f1, f2, f3⟩ := hfin
          generalize fin4 ((w3.setCell ⟨w1.heap.size, 2, none⟩ (.int .i64 0)).setCell ⟨w1.heap.size, 3, none⟩ (.int .i64 0)) w.heap.size ⟨kS, ⟨#[]⟩, 0, 0⟩ = W4 at *
          have d0 := f1.cell 0
          have d1 := f1.cell 1
          have d2 := f1.cell 2
          have d3 := f1.cell 3
          simp at d0 d1 d2 d3
          exact bodyPost_ret (v := iagg ⟨kS, ⟨#[]⟩, 0, 0⟩) (by simp [results, Tryz.results61, go_sem, d0, d1, d2, d3]; try rfl) rfl ⟨rfl, f2, f3⟩
    · have he := hbn hn2
      subst he
      have e1 : getItem bs = (⟨⟨k.toArray⟩, ⟨#[]⟩, 0, 0⟩, l2, n2) := by
        unfold getItem
        rw [hk]
        simp only [ne_eq, not_true, if_false]
        rw [hbk]
        simp only [ne_eq, hn2, not_false_eq_true, if_true]
      rw [e1]
      generalize (⟨k.toArray⟩ : ByteArray) = kS at *
      have HB := Lib.hid hba
      clear hba hbn hbk hk e1
      go_enter Tryz.func61, Tryz.ntmps61
      go_wp2_with fail
      refine HR.out.mono ?_
      rintro e w1 ⟨rfl, hrd1, hg1⟩
      have hz : Has w1 w.heap.size 24 zeroI := (Has.made w 24 zeroI).grown hg1 (fun e => by cases e; omega)
      have hs1 : w.heap.size < w1.heap.size := hz.inside
      have k0 := kept_first hg1
      have hrd2 : Rd (w1.alloc (.cells #[.string kS, .string ⟨#[]⟩, .int .i64 0, .int .i64 0] 24)) b l1 0 := hrd1.below ((Below.refl w1.heap.size w1).alloc (Nat.le_refl _) _) (by omega)
      have hE1 := HB.out _ hrd2
      have HH := Lib.hid (And.intro k0 hz)
      clear hz hrd2 hrd1 hg1 k0 HR HB
      go_wp2_with fail
      refine hE1.mono ?_
      rintro e w2 ⟨rfl, hrd3, hg2⟩
      have hz2 : Has w2 w.heap.size 24 zeroI := (HH.out.2.alloc _).grown hg2 (fun e => by cases e; omega)
      have hy2 : Has w2 w1.heap.size 24 #[.string kS, .string ⟨#[]⟩, .int .i64 0, .int .i64 0] := (Has.made w1 24 _).grown hg2 (fun e => by cases e; omega)
      have k2 : Kept [b] w w2 := (HH.out.1.alloc _).trans (Kept.of_grown hg2 (fun k hk => by cases hk; simp))
      clear hE1 hg2 HH
      have hE2 := rtext_err b l2 n2 60 _ hrd3 hn2
      have z0 := hz2.cell 0
      have z1 := hz2.cell 1
      have z2 := hz2.cell 2
      have z3 := hz2.cell 3
      have y0 := hz2.free 0
      have y1 := hz2.free 1
      have y2 := hz2.free 2
      have y3 := hz2.free 3
      have x0 := hy2.cell 0
      have x1 := hy2.cell 1
      have x2 := hy2.cell 2
      have x3 := hy2.cell 3
      have v1 := hy2.free 1
      have v2 := hy2.free 2
      have v3 := hy2.free 3
      simp [zeroI] at z0 z1 z2 z3 x0 x1 x2 x3
      have HH := Lib.hid (And.intro hrd3 (And.intro k2 (And.intro hz2 hy2)))
      clear hrd3 k2 hz2 hy2
      go_wp2_with fail
      refine hE2.mono ?_
      rintro e w3 ⟨rfl, rfl⟩
      go_wp2_with fail
      obtain ⟨h1, h2, h3, h4⟩ := HH.out
      obtain ⟨p1, p2, p3⟩ := past_fin (w := w) (g := w1.heap.size) (i := 1) h3 h1 h2 (by omega) (by omega) (by omega) (.string ByteArray.empty)
      have hfin := fin4_is (w := w) p1 p2 p3 (by omega) (Nat.le_refl _) ⟨kS, ByteArray.empty, 0, 0⟩
      change bodyPost Tryz.prog Tryz.f61 _ Exit.ret _ (fin4 (w2.setCell ⟨w1.heap.size, 1, none⟩ (.string ByteArray.empty)) w.heap.size ⟨kS, ByteArray.empty, 0, 0⟩)
      obtain ⟨f1, f2, f3⟩ := hfin
      generalize fin4 (w2.setCell ⟨w1.heap.size, 1, none⟩ (.string ByteArray.empty)) w.heap.size ⟨kS, ByteArray.empty, 0, 0⟩ = W4 at *
      have d0 := f1.cell 0
      have d1 := f1.cell 1
      have d2 := f1.cell 2
      have d3 := f1.cell 3
      simp at d0 d1 d2 d3
      exact bodyPost_ret (v := iagg ⟨kS, ⟨#[]⟩, 0, 0⟩) (by simp [results, Tryz.results61, go_sem, d0, d1, d2, d3]; try rfl) rfl ⟨rfl, f2, f3⟩
  · rw [if_pos hn] at hgi
    rw [hgi]
    have hk0 := hno hn
    subst hk0
    have HR := Lib.hid (hra _ h0)
    clear hra hno hgi hk
    go_enter Tryz.func61, Tryz.ntmps61
    go_wp2_with fail
    refine HR.out.mono ?_
    rintro e w1 ⟨rfl, hrd1, hg1⟩
    have hz : Has w1 w.heap.size 24 zeroI := (Has.made w 24 zeroI).grown hg1 (fun e => by cases e; omega)
    have hs1 : w.heap.size < w1.heap.size := hz.inside
    have hrd2 : Rd (w1.alloc (.cells zeroI 24)) b l1 n1 := hrd1.below ((Below.refl w1.heap.size w1).alloc (Nat.le_refl _) _) (by omega)
    have hE1 := rbool_err b l1 n1 _ hrd2 hn
    have hE2 := rtext_err b l1 n1 60 _ hrd2 hn
    have k0 := kept_first hg1
    have z0 := hz.cell 0
    have z1 := hz.cell 1
    have z2 := hz.cell 2
    have z3 := hz.cell 3
    have y0 := hz.free 0
    have y1 := hz.free 1
    have y2 := hz.free 2
    have y3 := hz.free 3
    simp [zeroI] at z0 z1 z2 z3
    have HH := Lib.hid (And.intro hrd1 (And.intro k0 hz))
    clear hz hrd2 hrd1 hg1 k0 HR
    go_wp2_with fail
    refine hE1.mono ?_
    rintro e w2 ⟨rfl, rfl⟩
    go_wp2_with fail
    refine hE2.mono ?_
    rintro e w2 ⟨rfl, rfl⟩
    go_wp2_with fail
    have hfin := fin4_is (w := w) HH.out.2.2 HH.out.1 HH.out.2.1 (by omega) (Nat.le_refl _) ⟨⟨#[]⟩, ByteArray.empty, 0, 0⟩
    unfold fin4 at hfin
    simp only at hfin
    generalize hW4 : ((((w1.setCell { block := w.heap.size, off := 0 } (Value.string { data := #[] })).setCell { block := w.heap.size, off := 1 } (Value.string ByteArray.empty)).setCell { block := w.heap.size, off := 2 } (Value.int IntKind.i64 0)).setCell { block := w.heap.size, off := 3 } (Value.int IntKind.i64 0)) = W4 at *
    obtain ⟨f1, f2, f3⟩ := hfin
    have d0 := f1.cell 0
    have d1 := f1.cell 1
    have d2 := f1.cell 2
    have d3 := f1.cell 3
    simp at d0 d1 d2 d3
    have hs4 := f1.inside
    refine bodyPost_ret (v := iagg ⟨⟨#[]⟩, ⟨#[]⟩, 0, 0⟩) (by simp [results, Tryz.results61, go_sem, d0, d1, d2, d3, hs4]; rfl) rfl ⟨rfl, f2.below ((Below.refl _ _).alloc (Nat.le_refl _) _) f2.inside, f3.alloc _⟩
end Go.Proofs.YtpfifmjcmpankaaGreat
