/-
  OverBack: what is put is got, of just as many pages as it takes; what is dropped is gone, and its pages may be taken again. For every two values. Conditions: the variables that the row lists are laid as its card says.
-/
import Derived.Test.YtlignamakiiokaaGreatDoorMg40
import Derived.Test.YtlignamakiiokaaGreatDoorMg41
namespace Go.Proofs.YtlignamakiiokaaGreatDoor.overBack
open Go.RowKit Go.Sort Go.Lib Go.ChangeShapes Go.WideShapes Go.ChangeAt

theorem drAll_same (s : PgS) (L : List Int) : (drAll s L).spare.length = s.spare.length + L.length ∧ (drAll s L).pages = s.pages ∧ (drAll s L).dev = s.dev := by
  induction L generalizing s with
  | nil => exact ⟨rfl, rfl, rfl⟩
  | cons x L ih =>
    obtain ⟨h1, h2, h3⟩ := ih (drS s x)
    refine ⟨?_, h2, h3⟩
    show (drAll (drS s x) L).spare.length = _
    rw [h1]
    show (x :: s.spare).length + L.length = s.spare.length + (L.length + 1)
    simp
    omega

/-- All that is known of the states that OverBack goes through. -/
structure Way (v u : ByteArray) (s1 s2 s3 s4 : PgS) (n m o : Int) (ids : List Int) : Prop where
  y1 : Yg s1
  y2 : Yg s2
  y3 : Yg s3
  y4 : Yg s4
  n1 : s1.n < 900000
  n2 : s2.n + nP v.size < 900000
  n3 : s3.n < 900000
  e2 : puE s1 u = 0 ∧ puI s1 u = m ∧ puT s1 u = s2
  g2v : wkE s2 n v.size = 0 ∧ wkB s2 n v.size = v ∧ wkL s2 n v.size = ids
  g2u : wkE s2 m u.size = 0 ∧ wkB s2 m u.size = u
  len : ids.length = nP v.size
  nod : ids.Nodup
  fate : ∀ x ∈ ids, (s2.H x).fate = 1
  e3 : drAll s2 ids = s3
  gone : wkE s3 n v.size ≠ 0
  e4 : puE s3 v = 0 ∧ puI s3 v = o ∧ puT s3 v = s4
  g4v : wkE s4 o v.size = 0 ∧ wkB s4 o v.size = v
  g4u : wkE s4 m u.size = 0 ∧ wkB s4 m u.size = u
  pages : s4.pages = s2.pages
  ints : IsInt n ∧ IsInt m ∧ IsInt o

theorem way {s0 : PgS} (hy : Yg s0) (hn0 : s0.n = 0) (ha : avail s0 = 58) (v u : ByteArray) (hv0 : v.size ≠ 0) (hv1 : v.size ≤ 2000) (hu0 : u.size ≠ 0) (hu1 : u.size ≤ 2000) :
    puE s0 v = 0 ∧ ∃ s1 s2 s3 s4 n m o ids, puI s0 v = n ∧ puT s0 v = s1 ∧ Way v u s1 s2 s3 s4 n m o ids := by
  have hKv : nP v.size ≤ 9 := by unfold nP; omega
  have hKu : nP u.size ≤ 9 := by unfold nP; omega
  obtain ⟨e1, ids, hch, hpi, hy1, hn1, ha1, -, -, -, hfa1⟩ := put_ok hy v hv0 hv1 (by omega)
  obtain ⟨s1, hs1⟩ : ∃ s1, puT s0 v = s1 := ⟨_, rfl⟩
  rw [hs1] at hch hy1 hn1 ha1 hfa1
  obtain ⟨e2, jds, hdh, hpj, hy2, hn2, ha2, -, hk2, hfr2, hfa2⟩ := put_ok hy1 u hu0 hu1 (by omega)
  obtain ⟨s2, hs2⟩ : ∃ s2, puT s1 u = s2 := ⟨_, rfl⟩
  rw [hs2] at hdh hy2 hn2 ha2 hk2 hfa2
  have hch2 : Chain s2 v ids := hch.of (fun x hx => hk2 x (hch.fate x hx))
  have hnr : ids.reverse.Nodup := (List.reverse_perm ids).nodup_iff.2 hch.2.1
  have hf2 : ∀ x ∈ ids.reverse, (s2.H x).fate = 1 := fun x hx => hch2.fate x (List.mem_reverse.1 hx)
  have hy3 := drAll_yg hy2 ids.reverse hnr hf2
  have hn3 := drAll_n s2 ids.reverse
  obtain ⟨d1, d2, d3⟩ := drAll_same s2 ids.reverse
  have hdj : ∀ x ∈ jds, x ∉ ids := fun x hx hx2 => hfr2 x hx (hch.fate x hx2)
  have hdh3 : Chain (drAll s2 ids.reverse) u jds := hdh.of (fun x hx => drAll_at _ _ _ (fun h => hdj x hx (List.mem_reverse.1 h)))
  obtain ⟨hm1, hi1, hl1⟩ := chain_first hy1 hv0 hch
  obtain ⟨hm2, hi2, hl2⟩ := chain_first hy2 hu0 hdh
  have hgone : ((drAll s2 ids.reverse).H (prevOf ids ids.length)).fate = 3 := drAll_gone (List.mem_reverse.2 hm1) hnr
  have hlr : ids.reverse.length = nP v.size := by rw [List.length_reverse]; exact hch.1
  rw [hlr] at d1 hn3
  obtain ⟨s3, hs3⟩ : ∃ s3, drAll s2 ids.reverse = s3 := ⟨_, rfl⟩
  rw [hs3] at hy3 hn3 d1 d2 d3 hdh3 hgone
  obtain ⟨e4, kds, hkh, hpk, hy4, hn4, -, hpg4, hk4, -, hfa4⟩ := put_ok hy3 v hv0 hv1 (by unfold avail; omega)
  obtain ⟨s4, hs4⟩ : ∃ s4, puT s3 v = s4 := ⟨_, rfl⟩
  rw [hs4] at hkh hy4 hn4 hk4 hpg4 hfa4
  have hdh4 : Chain s4 u jds := hdh3.of (fun x hx => hk4 x (hdh3.fate x hx))
  obtain ⟨hm4, hi4, hl4⟩ := chain_first hy4 hv0 hkh
  obtain ⟨p1, p2, p3⟩ := chain_get hy2 hv0 hv1 hch2
  obtain ⟨q1, q2, q3⟩ := chain_get hy2 hu0 hu1 hdh
  obtain ⟨r1, r2, r3⟩ := chain_get hy4 hv0 hv1 hkh
  obtain ⟨t1, t2, t3⟩ := chain_get hy4 hu0 hu1 hdh4
  refine ⟨e1, s1, s2, s3, s4, prevOf ids ids.length, prevOf jds jds.length, prevOf kds kds.length, ids.reverse, hpi, hs1, ?_⟩
  exact { y1 := hy1, y2 := hy2, y3 := hy3, y4 := hy4, n1 := by omega, n2 := by omega, n3 := by omega, e2 := ⟨e2, hpj, hs2⟩, g2v := ⟨p1, p2, p3⟩, g2u := ⟨q1, q2⟩, len := hlr, nod := hnr, fate := hf2, e3 := hs3, gone := gone_get hy3 hv0 hv1 hgone,
          e4 := ⟨e4, hpk, hs4⟩, g4v := ⟨r1, r2⟩, g4u := ⟨t1, t2⟩, pages := by rw [hpg4 (by omega), d2], ints := ⟨hi1, hi2, hi4⟩ }

set_option maxRecDepth 1000000 in
set_option maxHeartbeats 8000000 in
theorem walk_whole (w : World) (v u : ByteArray) (hv0 : v.size ≠ 0) (hv1 : v.size ≤ 2000) (hu0 : u.size ≠ 0) (hu1 : u.size ≤ 2000) :
    Calls Tryz.prog 4 #[.string v, .string u] w fun e w' => e = .returned (.bool true) ∧ Below w.heap.size w w' := by
  have hbs := base7_ok (w := w) (v := .slice none 0 0) (l := []) 60 2 (by omega) (by omega) (by omega) (Reads1.empty _ _ _ _) (by simp)
  have hyg := Yg.new 60 (by omega) (by omega)
  have hav := avail_new 60 (by omega)
  obtain ⟨s0, hs0⟩ : ∃ s0, newPg (longer (newS 60) 2) [] 0 [] [] 2 1 = s0 := ⟨_, rfl⟩
  have hn0 : s0.n = 0 := by rw [← hs0]; rfl
  rw [hs0] at hyg hav
  obtain ⟨e1, s1, s2, s3, s4, n, m, o, ids, hpi, hpt, hw⟩ := way hyg hn0 (by omega) v u hv0 hv1 hu0 hu1
  obtain ⟨K, hK⟩ : ∃ K, nP v.size = K := ⟨_, rfl⟩
  have hKz : (v.size + 239) / 240 = K := hK
  have r0 : IntKind.i64.wrap ((v.size : Int) + 239) = (v.size : Int) + 239 := IntWalk.i64_in _ (by omega)
  have r1 : IntKind.i64.wrap (Int.tdiv ((v.size : Int) + 239) 240) = (K : Int) := by
    have e : Int.tdiv ((v.size : Int) + 239) 240 = (K : Int) := by rw [Int.tdiv_eq_ediv_of_nonneg (by omega)]; omega
    rw [e]
    exact IntWalk.i64_in _ (by omega)
  have hvb : v.size ≤ 9223372036854775807 := by omega
  have hub : u.size ≤ 9223372036854775807 := by omega
  have hvi : IsInt (v.size : Int) := by unfold IsInt; omega
  have hui : IsInt (u.size : Int) := by unfold IsInt; omega
  have HM := Lib.hid (And.intro hyg (And.intro hn0 (And.intro hs0 (And.intro e1 (And.intro hpi (And.intro hpt (And.intro hw hK)))))))
  have HB := Lib.hid (And.intro hvb (And.intro hub (And.intro hvi hui)))
  have g1 : decide ((2100 : Int) < (v.size : Int)) = false := by simp; omega
  have g2 : decide ((2000 : Int) < (u.size : Int)) = false := by simp; omega
  have g3 : ((u.size : Int) == 0) = false := by simpa using hu0
  have g4 : ((v.size : Int) == 0) = false := by simpa using hv0
  have g5 : decide ((2000 : Int) < (v.size : Int)) = false := by simp; omega
  clear hyg hav hn0 hs0 e1 hpi hpt hw hK hKz hvb hub hvi hui
  go_enter Tryz.func4, Tryz.ntmps4
  go_wp2_with fail
  refine hbs.mono ?_
  rintro e w1 ⟨pd, q, pf, qf, FD, FF, rfl, hd, hf, hge, hfg, hap, hb⟩
  have hnw := gnew_ok 2 1 hd hf hap (by omega) (by rw [longer_new_len]; omega) (by omega) (by simp [whats]) (by simp)
  have H1 := Lib.hid (And.intro hge (And.intro hfg hb))
  clear hbs hd hf hge hfg hap hb
  go_wp2_with fail
  refine hnw.mono ?_
  rintro e w2 ⟨p, b, F2, rfl, hp2, hF2, hb2⟩
  have hr2 : PgRun w p pd pf b s0 w2 := by rw [← HM.out.2.2.1]; exact PgRun.new hp2 hF2 H1.out.1 H1.out.2.1 H1.out.2.2 hb2
  clear hnw hp2 hF2 hb2 H1 F2
  obtain ⟨F, hp, hstep⟩ := hr2.step
  have hpu := oput_any v HB.out.1 HM.out.1 (by have := HM.out.2.1; omega) hp
  rw [HM.out.2.2.2.1, HM.out.2.2.2.2.1, HM.out.2.2.2.2.2.1] at hpu
  have HS := Lib.hid hstep
  have HW := Lib.hid HM.out.2.2.2.2.2.2.1
  have HKK := Lib.hid HM.out.2.2.2.2.2.2.2
  clear hr2 hp hstep HM
  go_wp2_with fail
  refine hpu.mono ?_
  rintro e w3 ⟨rfl, h3⟩
  obtain ⟨F, hp, hstep⟩ := (HS.out _ _ h3).step
  have hpu := oput_any u HB.out.2.1 HW.out.y1 HW.out.n1 hp
  rw [HW.out.e2.1, HW.out.e2.2.1, HW.out.e2.2.2] at hpu
  have HS3 := Lib.hid hstep
  clear h3 hp hstep HS
  go_wp2_with fail
  refine hpu.mono ?_
  rintro e w4 ⟨rfl, h4⟩
  have hr4 := HS3.out _ _ h4
  obtain ⟨F, hp, hstep⟩ := hr4.step
  have hgt := oget_any n v.size HW.out.ints.1 HB.out.2.2.1 HW.out.y2 hp
  rw [HW.out.g2v.1, HW.out.g2v.2.1] at hgt
  have HS4 := Lib.hid hr4
  clear h4 hr4 hp hstep HS3 hpu
  go_wp2_with fail
  refine hgt.mono ?_
  rintro e w5 ⟨rfl, hb⟩
  have hr := HS4.out.below hb
  obtain ⟨F, hp, hstep⟩ := hr.step
  have hgt2 := oget_any m u.size HW.out.ints.2.1 HB.out.2.2.2 HW.out.y2 hp
  rw [HW.out.g2u.1, HW.out.g2u.2] at hgt2
  have HS5 := Lib.hid hr
  clear hr hp hstep hb HS4 hgt
  go_wp2_with fail
  refine hgt2.mono ?_
  rintro e w6 ⟨rfl, hb⟩
  have hr := HS5.out.below hb
  obtain ⟨F, hp, hstep⟩ := hr.step
  have hpg := opages_any n v.size HW.out.ints.1 HB.out.2.2.1 HW.out.y2 hp
  rw [HW.out.g2v.1, HW.out.g2v.2.2] at hpg
  have HS6 := Lib.hid hr
  clear hr hp hstep hb HS5 hgt2
  go_wp2_with fail
  refine hpg.mono ?_
  rintro e w7 ⟨⟨v7, rfl, hr7⟩, hb⟩
  have hr := HS6.out.below hb
  obtain ⟨A7, c7, hform⟩ := rform3 hr7
  rw [HW.out.len, HKK.out] at hform
  subst hform
  obtain ⟨F, hp, hstep⟩ := hr.step
  have hpp := gpages_any hp
  have hdr := odrop_any n v.size HW.out.ints.1 HB.out.2.2.1 HW.out.y2 (by rw [HW.out.g2v.2.2]; exact HW.out.nod) (by rw [HW.out.g2v.2.2]; exact HW.out.fate) (by rw [HW.out.g2v.2.2, HW.out.len]; have := HW.out.n2; omega) hp
  rw [HW.out.g2v.1, HW.out.g2v.2.2, HW.out.e3] at hdr
  have HS7 := Lib.hid hstep
  clear hr hr7 hp hstep hb HS6 hpg
  go_wp2_with fail
  refine hpp.mono ?_
  rintro e w' ⟨rfl, rfl⟩
  clear hpp
  go_wp2_with fail
  refine hdr.mono ?_
  rintro e w8 ⟨rfl, h8⟩
  have hr := HS7.out _ _ h8
  obtain ⟨F, hp, hstep⟩ := hr.step
  have hgt := oget_any n v.size HW.out.ints.1 HB.out.2.2.1 HW.out.y3 hp
  have hge := HW.out.gone
  generalize wkE s3 n v.size = gone at *
  generalize wkB s3 n v.size = gbytes at *
  have hgn : (gone != 0) = true := by simpa using hge
  have HS8 := Lib.hid hr
  clear hr hp hstep h8 HS7 hdr hge
  go_wp2_with fail
  refine hgt.mono ?_
  rintro e w9 ⟨rfl, hb⟩
  have hr := HS8.out.below hb
  obtain ⟨F, hp, hstep⟩ := hr.step
  have hpu := oput_any v HB.out.1 HW.out.y3 HW.out.n3 hp
  rw [HW.out.e4.1, HW.out.e4.2.1, HW.out.e4.2.2] at hpu
  have HS9 := Lib.hid hstep
  clear hr hp hstep hb HS8 hgt
  go_wp2_with fail
  refine hpu.mono ?_
  rintro e w10 ⟨rfl, h10⟩
  have hr := HS9.out _ _ h10
  obtain ⟨F, hp, hstep⟩ := hr.step
  have hgt := oget_any o v.size HW.out.ints.2.2 HB.out.2.2.1 HW.out.y4 hp
  rw [HW.out.g4v.1, HW.out.g4v.2] at hgt
  have HS10 := Lib.hid hr
  clear hr hp hstep h10 HS9 hpu
  go_wp2_with fail
  refine hgt.mono ?_
  rintro e w11 ⟨rfl, hb⟩
  have hr := HS10.out.below hb
  obtain ⟨F, hp, hstep⟩ := hr.step
  have hgt2 := oget_any m u.size HW.out.ints.2.1 HB.out.2.2.2 HW.out.y4 hp
  rw [HW.out.g4u.1, HW.out.g4u.2] at hgt2
  have HS11 := Lib.hid hr
  clear hr hp hstep hb HS10 hgt
  go_wp2_with fail
  refine hgt2.mono ?_
  rintro e w12 ⟨rfl, hb⟩
  have hr := HS11.out.below hb
  have hal := alive10_any w12
  have HS12 := Lib.hid hr
  clear hr hb HS11 hgt2
  go_wp2_with fail
  refine hal.mono ?_
  rintro e w13 ⟨rfl, hb⟩
  have hr := HS12.out.below hb
  obtain ⟨F, hp, hstep⟩ := hr.step
  have hpp := gpages_any hp
  rw [HW.out.pages] at hpp
  have HS13 := Lib.hid hr.out
  clear hr hp hstep hb HS12 hal
  go_wp2_with fail
  refine hpp.mono ?_
  rintro e w' ⟨rfl, rfl⟩
  clear hpp
  go_wp2_with fail
  go_ret
  exact ⟨rfl, HS13.out⟩

set_option maxRecDepth 1000000 in
set_option maxHeartbeats 8000000 in
/-- A value that can't be put. -/
theorem walk_bad (w : World) (v u : ByteArray) (hv : v.size = 0 ∨ 2000 < v.size) (hv1 : v.size ≤ 2100) (hu0 : u.size ≠ 0) (hu1 : u.size ≤ 2000) :
    Calls Tryz.prog 4 #[.string v, .string u] w fun e w' => e = .returned (.bool true) ∧ Below w.heap.size w w' := by
  have hbs := base7_ok (w := w) (v := .slice none 0 0) (l := []) 60 2 (by omega) (by omega) (by omega) (Reads1.empty _ _ _ _) (by simp)
  have hyg := Yg.new 60 (by omega) (by omega)
  obtain ⟨s0, hs0⟩ : ∃ s0, newPg (longer (newS 60) 2) [] 0 [] [] 2 1 = s0 := ⟨_, rfl⟩
  have hn0 : s0.n = 0 ∧ s0.pages = 2 := by rw [← hs0]; exact ⟨rfl, rfl⟩
  rw [hs0] at hyg
  have e1 : puE s0 v = 1 := by unfold puE; rw [if_pos hv]
  have e2 : puI s0 v = 0 := by unfold puI; rw [e1]; rfl
  have e3 : puT s0 v = s0 := by unfold puT; rw [if_pos hv]
  have HM := Lib.hid (And.intro hyg (And.intro hn0 (And.intro hs0 (And.intro e1 (And.intro e2 (And.intro e3 hv1))))))
  have g1 : decide ((2100 : Int) < (v.size : Int)) = false := by simp; omega
  have g2 : decide ((2000 : Int) < (u.size : Int)) = false := by simp; omega
  have g3 : ((u.size : Int) == 0) = false := by simpa using hu0
  obtain ⟨bb, hbb⟩ : ∃ bb, ((v.size : Int) == 0) = bb := ⟨_, rfl⟩
  have g5 : bb = false → decide ((2000 : Int) < (v.size : Int)) = true := fun h => by
    have h1 : ((v.size : Int) == 0) = false := hbb.trans h
    have h2 : v.size ≠ 0 := fun e => by rw [e] at h1; simp at h1
    simp
    omega
  clear hyg hn0 hs0 e1 e2 e3 hv
  go_enter Tryz.func4, Tryz.ntmps4
  go_wp2_with fail
  refine hbs.mono ?_
  rintro e w1 ⟨pd, q, pf, qf, FD, FF, rfl, hd, hf, hge, hfg, hap, hb⟩
  have hnw := gnew_ok 2 1 hd hf hap (by omega) (by rw [longer_new_len]; omega) (by omega) (by simp [whats]) (by simp)
  have H1 := Lib.hid (And.intro hge (And.intro hfg hb))
  clear hbs hd hf hge hfg hap hb
  go_wp2_with fail
  refine hnw.mono ?_
  rintro e w2 ⟨p, b, F2, rfl, hp2, hF2, hb2⟩
  have hr2 : PgRun w p pd pf b s0 w2 := by rw [← HM.out.2.2.1]; exact PgRun.new hp2 hF2 H1.out.1 H1.out.2.1 H1.out.2.2 hb2
  clear hnw hp2 hF2 hb2 H1 F2
  obtain ⟨F, hp, hstep⟩ := hr2.step
  have hpu := oput_any v (by have := HM.out.2.2.2.2.2.2; omega) HM.out.1 (by have := HM.out.2.1.1; omega) hp
  rw [HM.out.2.2.2.1, HM.out.2.2.2.2.1, HM.out.2.2.2.2.2.1] at hpu
  have HS := Lib.hid hstep
  clear hr2 hp hstep
  go_wp2_with fail
  refine hpu.mono ?_
  rintro e w3 ⟨rfl, h3⟩
  have hr := HS.out _ _ h3
  have hal := alive10_any w3
  have HS3 := Lib.hid hr
  clear hr h3 HS hpu
  cases bb
  · have g6 := g5 rfl
    clear g5
    go_wp2_with fail
    refine hal.mono ?_
    rintro e w4 ⟨rfl, hb⟩
    have hr := HS3.out.below hb
    obtain ⟨F, hp, hstep⟩ := hr.step
    have hpp := gpages_any hp
    rw [HM.out.2.1.2] at hpp
    have HS4 := Lib.hid hr.out
    clear hr hp hstep hb hal
    go_wp2_with fail
    refine hpp.mono ?_
    rintro e w' ⟨rfl, rfl⟩
    clear hpp
    go_wp2_with fail
    go_ret
    exact ⟨rfl, HS4.out⟩
  · clear g5
    go_wp2_with fail
    refine hal.mono ?_
    rintro e w4 ⟨rfl, hb⟩
    have hr := HS3.out.below hb
    obtain ⟨F, hp, hstep⟩ := hr.step
    have hpp := gpages_any hp
    rw [HM.out.2.1.2] at hpp
    have HS4 := Lib.hid hr.out
    clear hr hp hstep hb hal
    go_wp2_with fail
    refine hpp.mono ?_
    rintro e w' ⟨rfl, rfl⟩
    clear hpp
    go_wp2_with fail
    go_ret
    exact ⟨rfl, HS4.out⟩

set_option maxRecDepth 1000000 in
set_option maxHeartbeats 2000000 in
theorem walk_out (w : World) (v u : ByteArray) (h : 2100 < v.size ∨ 2000 < u.size ∨ u.size = 0) :
    Calls Tryz.prog 4 #[.string v, .string u] w fun e w' => e = .returned (.bool true) ∧ Below w.heap.size w w' := by
  have hal := alive10_any w
  by_cases c1 : 2100 < v.size
  · have g1 : decide ((2100 : Int) < (v.size : Int)) = true := by simp; omega
    clear h c1
    go_enter Tryz.func4, Tryz.ntmps4
    go_wp2_with fail
    refine hal.mono ?_
    rintro e w1 ⟨rfl, hb⟩
    have HB := Lib.hid hb
    clear hal hb
    go_wp2_with fail
    go_ret
    exact ⟨rfl, HB.out⟩
  · have g1 : decide ((2100 : Int) < (v.size : Int)) = false := by simp; omega
    by_cases c2 : 2000 < u.size
    · have g2 : decide ((2000 : Int) < (u.size : Int)) = true := by simp; omega
      clear h c1 c2
      go_enter Tryz.func4, Tryz.ntmps4
      go_wp2_with fail
      refine hal.mono ?_
      rintro e w1 ⟨rfl, hb⟩
      have HB := Lib.hid hb
      clear hal hb
      go_wp2_with fail
      go_ret
      exact ⟨rfl, HB.out⟩
    · have g2 : decide ((2000 : Int) < (u.size : Int)) = false := by simp; omega
      have g3 : ((u.size : Int) == 0) = true := by
        have : u.size = 0 := by omega
        rw [this]
        rfl
      clear h c1 c2
      go_enter Tryz.func4, Tryz.ntmps4
      go_wp2_with fail
      refine hal.mono ?_
      rintro e w1 ⟨rfl, hb⟩
      have HB := Lib.hid hb
      clear hal hb
      go_wp2_with fail
      go_ret
      exact ⟨rfl, HB.out⟩

theorem walk (w : World) (v : ByteArray) (_hs : v.size ≤ 9223372036854775807) (u : ByteArray) (_hu : u.size ≤ 9223372036854775807) :
    Calls Tryz.prog 4 #[.string v, .string u] w fun e w' => e = .returned (.bool true) ∧ Below w.heap.size w w' := by
  by_cases c0 : 2100 < v.size ∨ 2000 < u.size ∨ u.size = 0
  · exact walk_out w v u c0
  by_cases c1 : v.size = 0 ∨ 2000 < v.size
  · exact walk_bad w v u c1 (by omega) (by omega) (by omega)
  exact walk_whole w v u (by omega) (by omega) (by omega) (by omega)

set_option maxRecDepth 100000 in
theorem contract (H : Type) (enc : TypeId × Value → H) (W : World) (base : Nat) (args : Array Value) (ds gs : List (DataW H)) (before : List MemPlace)
    (hval : ∀ (j : Nat) t v, Tryz.f4.params[j]? = some t → args[j]? = some v → Value.okWide Tryz.prog W .any base t v)
    (hW : DataW.Whole enc Tryz.prog Tryz.f4.params.toList Rows.overBackSpec.vars false W args.toList ds gs before) (_hL : laidMetH Tryz.prog Rows.overBackRow.laid W) :
    Calls Tryz.prog 4 args W fun e W' => ∃ v, e = .returned v ∧ Rows.overBackSpec.post enc Tryz.prog Tryz.f4 false true false false W args v W' := by
  have hW' := hW
  obtain ⟨p, q, hA0, hV, rfl, hfz, hnd⟩ := hW
  have hA : DataW.TrodAll enc Tryz.prog W 0 (fun _ => true) true Tryz.f4.params.toList args.toList ds p := hA0
  rw [Tryz.params4] at hA hval
  obtain ⟨v0, vs0, d0, ds0, p0, q0, hargs, rfl, rfl, h0, r00⟩ := trodAll_cons hA
  obtain ⟨v1, vs1, d1, ds1, p1, q1, rfl, rfl, rfl, h1, r01⟩ := trodAll_cons r00
  obtain ⟨rfl, rfl, rfl⟩ := trodAll_nil r01
  obtain rfl : args = #[v0, v1] := by cases args; simp_all
  obtain ⟨rfl, rfl⟩ := trodVars_none hV
  obtain ⟨s0, rfl, rfl, rfl, z0⟩ := Go.ChangeMaps.open_string Tryz.underlying9 (hval 0 9 v0 rfl rfl) h0
  obtain ⟨s1, rfl, rfl, rfl, z1⟩ := Go.ChangeMaps.open_string Tryz.underlying9 (hval 1 9 v1 rfl rfl) h1
  clear hA0
  refine (walk W s0 (le_of_maxLen z0) s1 (le_of_maxLen z1)).mono fun e W' ⟨he, hb⟩ => ?_
  subst he
  exact ⟨_, rfl, law_post hW' rfl rfl (by kernel_rfl) (by kernel_rfl) hb⟩

theorem reads (os : Os) {H : Type} (enc : TypeId × Value → H) : ∃ places, DataW.whole enc Tryz.prog ((laidWorld os).forCall (fun _ _ => 0) ⟨#[], #[.string ByteArray.empty, .string ByteArray.empty], []⟩).memory Tryz.f4.params.toList Rows.overBackSpec.vars false (#[.string ByteArray.empty, .string ByteArray.empty] : Array Value).toList 8 = some ([.lit (.string []), .lit (.string [])], [], places) :=
  ⟨[], by kernel_rfl⟩

set_option maxRecDepth 100000 in
theorem lifted (os : Os) (started : os.Started) (H : Type) (enc : TypeId × Value → H) (F : Stop.Interp) :
    ReturnsInHanded {} Tryz.checked os 4 .any ((OpenSpec.ofChange Rows.overBackSpec).preRow enc Tryz.prog Tryz.f4 Rows.overBackRow.domain false Rows.overBackRow.laid) (((OpenSpec.ofChange Rows.overBackSpec).at F).post enc Tryz.prog Tryz.f4 false true false false) := by
  obtain ⟨places, hx⟩ := reads os enc
  refine returnsInHanded_of_row (C := Tryz.checked) (s := OpenSpec.ofChange Rows.overBackSpec) own started (by kernel_rfl) Tryz.func4
    (witness_row_at (enc := enc) (C := Tryz.checked) false (laidWorld os) #[.string ByteArray.empty, .string ByteArray.empty] (laid_os os) (by kernel_rfl) (by kernel_rfl) (by kernel_rfl)
      (OpenSpec.preRow_of_cond 8 hx (by kernel_rfl) (fun k hk => by cases hk) (by kernel_rfl) (laid_met os _))) ?_
  intro W base args ds gs before hval hW _ _ _ hL _ _
  exact contract H enc W base args ds gs before hval hW hL

set_option maxRecDepth 100000 in
theorem said : Rows.OverBackSaid :=
  OpenClaim.holds_of_cond 4 Tryz.f4 rfl rfl rfl rfl rfl rfl rfl ⟨rfl, rfl, rfl, rfl, rfl⟩ rfl rfl rfl rfl rfl (by kernel_rfl) Tryz.func4 (by kernel_rfl)
    (of_decide_eq_true (by kernel_rfl)) (by unfold Func.isWrapper; first | (rw [if_pos (by decide +kernel)]; kernel_rfl) | (rw [if_neg (by decide +kernel)]; exact ⟨rfl, rfl⟩))
    (fun os started H enc _ F => by rw [OpenClaim.pre_eq_preRow]; exact lifted os started H enc F)

set_option maxRecDepth 100000 in
theorem plain (f : FuncId) (fn : Func) (hf : Tryz.pinned.checked.prog.funcNamed "arboretum/arboretumlaw10.OverBack" = some f) (hfn : Tryz.pinned.checked.prog.funcs[f]? = some fn) :
    true = Tryz.pinned.checked.prog.looks [] ∧ ∀ (j : Nat) t, fn.params[j]? = some t → Tryz.pinned.checked.prog.wantsStandIn t = false := by
  obtain rfl : f = 4 := Option.some.inj ((show Tryz.prog.funcNamed "arboretum/arboretumlaw10.OverBack" = some 4 by kernel_rfl).symm.trans hf) |>.symm
  obtain rfl : fn = Tryz.f4 := (Option.some.inj (Tryz.func4.symm.trans hfn)).symm
  refine ⟨by kernel_rfl, fun j t ht => ?_⟩
  rw [Tryz.params4] at ht
  have hm : t ∈ [9, 9] := by simpa using Array.mem_of_getElem? ht
  have hall : ([9, 9].all fun u => !Tryz.prog.wantsStandIn u) = true := by kernel_rfl
  exact (show Tryz.prog.wantsStandIn t = false by simpa using List.all_eq_true.1 hall t hm)

theorem card : Rows.OverBackCardSaid :=
  Claim7.holds_tied_plain_at .later [] _ _ _ _ said (fun _ h => by cases h) (by kernel_rfl) (fun _ h => by cases h) overBack_row_tie rfl ⟨rfl, rfl⟩ (by kernel_rfl) rfl plain (by kernel_rfl)

end Go.Proofs.YtlignamakiiokaaGreatDoor.overBack
