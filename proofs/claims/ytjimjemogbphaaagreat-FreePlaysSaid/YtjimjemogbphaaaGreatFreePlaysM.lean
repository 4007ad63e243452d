/-
  FreePlays: of every pages, and every call, in every order, free pages answer as the document's own; what is handed in stays, and the lists that were answered are apart; for every []int, bool and list of things that are done. Conditions: none but those of the given statement. (Printed by genFP.py.)
-/
import Derived.Test.YtjimjemogbphaaaGreatMg34
import Derived.Deep.QuietTactic
import Derived.BigQuiet
import Derived.Deep.CutBlock
namespace Go.Proofs.YtjimjemogbphaaaGreat.freePlays
open Go.ChangeShapes Go.WideShapes Go.ChangeAt Go.RowKit Go.Sort

theorem rform {w : World} {B : Nat} {v : Value} {l : List Int} (h : Reads1 w B v (l.map (.int .i64))) : ∃ A c, v = .slice A l.length c := by
  obtain ⟨A, c, rfl, h⟩ := h
  exact ⟨A, c, by simp⟩

set_option maxRecDepth 1000000 in
theorem walk_out (w : World) (v0 : Value) (l0 : List Int) (r0 : Reads1 w w.heap.size v0 (l0.map (.int .i64))) (z : Bool) (v2 : Value) (os : List OpL) (r2 : ReadsOps w v2 os) (h0 : l0.length ≤ 9223372036854775807) (h2 : os.length ≤ 9223372036854775807) (h : 100 < l0.length ∨ 150 < os.length) :
    Calls Tryz.prog 3 #[v0, .bool z, v2] w fun e w' => e = .returned (.bool true) ∧ Below w.heap.size w w' := by
  obtain ⟨A0, c0, rfl⟩ := rform r0
  obtain ⟨A1, c1, rfl, hh⟩ := r2
  clear r0 hh
  generalize l0.length = n0 at *
  generalize os.length = n1 at *
  rcases Nat.lt_or_ge 100 n0 with h3 | h3
  · have hb : decide ((100 : Int) < (n0 : Int)) = true := by simp; omega
    clear h h3
    go_enter Tryz.func3, Tryz.ntmps3
    go_wp2_with fail
    refine (alive6_any _).mono ?_
    rintro e w' ⟨rfl, hb⟩
    go_wp2_with fail
    go_ret
    exact ⟨rfl, hb⟩
  · have hb : decide ((100 : Int) < (n0 : Int)) = false := by simp; omega
    have hb1 : decide ((150 : Int) < (n1 : Int)) = true := by simp; omega
    clear h h3
    go_enter Tryz.func3, Tryz.ntmps3
    go_wp2_with fail
    refine (alive6_any _).mono ?_
    rintro e w' ⟨rfl, hb⟩
    go_wp2_with fail
    go_ret
    exact ⟨rfl, hb⟩

/-- Where the loop stands. -/
def LoopAt (w : World) (pf pr pb N : Nat) (g : Nat) (iv : Value) (wr : World) : Prop :=
  ∃ (i : Nat) (l k L P : List Int) (W : List (Int × Int)) (sq : Nat) (m : List Due) (KL : List KeptI), iv = .int .i64 i ∧ i + g = N ∧ PlayS w.heap.size wr [] pf l sq m k pr L W P pb KL ∧ Agr i l sq m k L W P ∧ KL.length ≤ 250 ∧ (∀ x ∈ KL, x.xs.length ≤ 900000) ∧ Below w.heap.size w wr

/-- The pages and the document's own, as they stand ahead of the first thing done. -/
def Start (w : World) (pf pr : Nat) (wx : World) : Prop :=
  ∃ (l L : List Int), Agr 0 l 0 [] [] L [] [] ∧ Below w.heap.size w wx ∧ PlayS w.heap.size (wx.alloc (.cells (bookCells nilV nilV nilV nilV) 61)) [] pf l 0 [] [] pr L [] [] wx.heap.size []

set_option maxRecDepth 1000000 in
set_option maxHeartbeats 8000000 in
theorem walk_whole (w : World) (v0 : Value) (l0 : List Int) (r0 : Reads1 w w.heap.size v0 (l0.map (.int .i64))) (f0 : ∀ n c, v0 = .slice none n c → n = 0 ∧ c = 0) (z : Bool) (v2 : Value) (os : List OpL) (r2 : ReadsOps w v2 os) (ok2 : ∀ o ∈ os, o.ok w) (h0 : l0.length ≤ 100) (h2 : os.length ≤ 150) :
    Calls Tryz.prog 3 #[v0, .bool z, v2] w fun e w' => e = .returned (.bool true) ∧ Below w.heap.size w w' := by
  have hlent := lentInts_any v0 (l0.map (.int .i64)) w r0 f0 int_one (by simp; omega)
  obtain ⟨A0, c0, hv0⟩ := rform r0
  have hv2 : ∃ A c, v2 = .slice A os.length c := by obtain ⟨A, c, h, _⟩ := r2; exact ⟨A, c, h⟩
  obtain ⟨A2, c2, hv2⟩ := hv2
  obtain ⟨n0, hn0⟩ : ∃ n, l0.length = n := ⟨_, rfl⟩
  obtain ⟨N, hN⟩ : ∃ n, os.length = n := ⟨_, rfl⟩
  have R := Lib.hid (And.intro r0 (And.intro r2 (And.intro ok2 (And.intro hn0 hN))))
  rw [hn0] at h0 hv0
  rw [hN] at h2 hv2
  subst hv0 hv2
  clear r0 r2 f0 ok2 hn0 hN
  have hb0 : decide ((100 : Int) < (n0 : Int)) = false := by simp; omega
  have hb1 : decide ((150 : Int) < (N : Int)) = false := by simp; omega
  go_enter Tryz.func3, Tryz.ntmps3
  go_wp2_with fail
  refine hlent.mono ?_
  rintro e w1 ⟨v1, rfl, hle, hb1w⟩
  have hnew := fnew_any (w := w1) (hle.reads.toO (Nat.le_refl _) (F := []) (by simp)) (by rw [R.out.2.2.2.1]; omega)
  obtain ⟨gm, cm, rfl, hgm, hlm⟩ := LentAt.of hle
  rw [List.length_map, R.out.2.2.2.1] at hlm hle hnew ⊢
  have H1 := Lib.hid (And.intro hle (And.intro hb1w hlm))
  clear hle hb1w hlm hlent hgm
  go_wp2_with fail
  refine hnew.mono ?_
  rintro e w2 ⟨rfl, ⟨F, hf, hF⟩, hb2⟩
  have hso := refSorted_any (w := w2) (v := .slice A0 n0 c0) (l := l0) (by
    have h := R.out.1
    have hb := H1.out.2.1.trans (hb2.mono H1.out.2.1.size)
    exact (h.below hb).mono hb.size) (by rw [R.out.2.2.2.1]; omega)
  have H2 := Lib.hid (And.intro hf (And.intro hF hb2))
  clear hf hF hb2 hnew
  go_wp2_with fail
  refine hso.mono ?_
  rintro e w3 ⟨vS, ms, rfl, hmp, hms, hoS, hb3⟩
  obtain ⟨AS, cS, hvS⟩ := row_form hoS
  have H3 := Lib.hid (And.intro hmp (And.intro hms (And.intro hoS hb3)))
  have hst := staysInts_any w.heap.size (.slice (some ⟨gm, 0, none⟩) n0 cm) (.slice A0 n0 c0) l0 (w3.alloc (.cells #[vS, .slice none 0 0, .slice none 0 0] 31)) (by
    have hb13 := H2.out.2.2.trans (hb3.mono H2.out.2.2.size)
    have hb4 : Below w1.heap.size w1 (w3.alloc (.cells #[vS, .slice none 0 0, .slice none 0 0] 31)) := hb13.alloc hb13.size _
    exact H1.out.1.below hb4 (Nat.le_refl _)) (by
    have hb := (H1.out.2.1.trans (H2.out.2.2.mono H1.out.2.1.size)).trans (hb3.mono (Nat.le_trans H1.out.2.1.size H2.out.2.2.size))
    have hb4 : Below w.heap.size w (w3.alloc (.cells #[vS, .slice none 0 0, .slice none 0 0] 31)) := hb.alloc hb.size _
    exact (R.out.1.below hb4).mono hb4.size) (by rw [R.out.2.2.2.1]; omega)
  subst hvS
  clear hmp hms hoS hb3 hso
  go_wp2_with fail
  refine hst.mono ?_
  rintro e w5 ⟨rfl, hb5⟩
  clear hst
  have hb35 : Below w3.heap.size w3 w5 := by
    have h1 : Below w3.heap.size w3 (w3.alloc (.cells #[.slice AS ms.length cS, .slice none 0 0, .slice none 0 0] 31)) := (Below.refl _ _).alloc (Nat.le_refl _) _
    exact h1.trans (hb5.mono h1.size)
  have hbw5 : Below w.heap.size w w5 := ((H1.out.2.1.trans (H2.out.2.2.mono H1.out.2.1.size)).trans (H3.out.2.2.2.mono (Nat.le_trans H1.out.2.1.size H2.out.2.2.size))).trans (hb35.mono (Nat.le_trans H1.out.2.1.size (Nat.le_trans H2.out.2.2.size H3.out.2.2.2.size)))
  go_upto_if 41 with fail
  go_cut [8, 9] from 42 to 45 (fun s8 s9 wx => ∃ pf pr, s8 = .pointer (some ⟨pf, 0, none⟩) ∧ s9 = .pointer (some ⟨pr, 0, none⟩) ∧ Start w pf pr wx)
  case rest =>
    obtain ⟨pf, pr, rfl, rfl, l5, L5, hag, hbw, hpl⟩ := hcut
    obtain ⟨pb, hpb⟩ : ∃ x, wc.heap.size = x := ⟨_, rfl⟩
    rw [hpb] at hpl
    have hloop : LoopAt w pf pr pb N N (.int .i64 0) (wc.alloc (.cells (bookCells nilV nilV nilV nilV) 61)) :=
      ⟨0, l5, [], L5, [], [], 0, [], [], rfl, by omega, hpl, hag, by simp, by simp, hbw.alloc hbw.size _⟩
    have HL := Lib.hid hloop
    have HPB := Lib.hid hpb
    clear hloop hag hbw hpl hpb hb35 hbw5 hb5 H1 H2 H3
    go_wp2_with fail
    rw [HPB.out]
    clear HPB
    go_loopg [11] N (LoopAt w pf pr pb N)
    case atStart => exact HL.out
    case round =>
      clear HL
      obtain ⟨i, l, k, L, P, W, sq, m, KL, rfl, hig, hpl, hag, hKL, hKx, hbw⟩ := hrel
      by_cases hlt : i < N
      · have hio : i < os.length := by rw [R.out.2.2.2.2]; exact hlt
        obtain ⟨b2, o2, c2', hv, d0, d1, d2⟩ := ReadsOps.at R.out.2.1 hbw i hio
        rw [R.out.2.2.2.2] at hv
        simp only [Value.slice.injEq] at hv
        obtain ⟨rfl, _, rfl⟩ := hv
        obtain ⟨q1, q2, q3, q4, q5, q6⟩ := R.out.2.2.1 os[i] (List.getElem_mem hio)
        have hI := hig
        generalize os[i] = o at *
        obtain ⟨ok, on, ov, ol⟩ := o
        simp only at d0 d1 d2 q1 q2 q3 q4 q5 q6
        obtain ⟨AO, cO, hov⟩ := rform q3
        obtain ⟨nO, hnO⟩ : ∃ n, ol.length = n := ⟨_, rfl⟩
        rw [hnO] at hov
        subst hov
        have hi1 : (i : Int) < N := by omega
        have hi0 : (0 : Int) ≤ i := by omega
        have hS1 := hpl.more (.cells #[.int .i64 ok, .int .i64 on, .slice AO nO cO] 63)
        have hbA : Below w.heap.size w (wr.alloc (.cells #[.int .i64 ok, .int .i64 on, .slice AO nO cO] 63)) := hbw.alloc hbw.size _
        have hmO := Has.made wr 63 #[.int .i64 ok, .int .i64 on, .slice AO nO cO]
        have hwl : wr.heap.size < (wr.alloc (.cells #[.int .i64 ok, .int .i64 on, .slice AO nO cO] 63)).heap.size := by simp
        have e2 : (wr.alloc (.cells #[.int .i64 ok, .int .i64 on, .slice AO nO cO] 63)).cell? ⟨wr.heap.size, 2, none⟩ = some (.slice AO nO cO) := hmO.cell 2
        have hHI := Lib.hid hI
        by_cases h60 : 60 < nO
        · have hd60 : decide ((60 : Int) < (nO : Int)) = true := by simp; omega
          have HB := Lib.hid hbA
          clear hpl hag hKL hKx hbw hS1 hbA hmO hwl e2 hig hI q3 hnO
          go_wp2_with fail
          go_ret
          exact ⟨rfl, HB.out⟩
        · have hd60 : decide ((60 : Int) < (nO : Int)) = false := by simp; omega
          have hrO : Reads1 (wr.alloc (.cells #[.int .i64 ok, .int .i64 on, .slice AO nO cO] 63)) (wr.alloc (.cells #[.int .i64 ok, .int .i64 on, .slice AO nO cO] 63)).heap.size (.slice AO nO cO) (ol.map (.int .i64)) := (q3.below hbA).mono hbA.size
          have hle := lentInts_any (.slice AO nO cO) (ol.map (.int .i64)) _ hrO q6 int_one (by rw [List.length_map]; omega)
          have HA := Lib.hid (And.intro hS1 (And.intro hbA (And.intro hmO (And.intro hag (And.intro hKL (And.intro hKx (And.intro q3 (And.intro q2 (And.intro hnO hwl)))))))))
          have hnb : nO ≤ 60 := by omega
          generalize hWA : wr.alloc (.cells #[.int .i64 ok, .int .i64 on, .slice AO nO cO] 63) = wA at *
          clear hpl hag hKL hKx hbw hS1 hbA hmO hwl hig hI q3 q1 q2 q4 q5 q6 hnO hrO
          go_wp2_with fail
          clear hWA
          refine hle.mono ?_
          rintro e w1 ⟨vm, rfl, hLe, hbL⟩
          obtain ⟨gm2, cm2, hvm, hgm2, hlm2⟩ := LentAt.of hLe
          obtain ⟨hS1, hbA, hmO, hag, hKL, hKx, q3, q2, hnO, hwl⟩ := HA.out
          rw [List.length_map, hnO] at hvm hlm2
          obtain ⟨ob, hobe⟩ : ∃ x, wr.heap.size = x := ⟨_, rfl⟩
          rw [hobe] at hS1 hmO hwl
          have hP1 := hS1.keep hbL hgm2 hlm2.lt
          have hO1 := hmO.below hbL hwl
          have hb1w := hbA.trans (hbL.mono hbA.size)
          have k0 : w1.cell? ⟨ob, 0, none⟩ = some (.int .i64 ok) := hO1.cell 0
          have k1 : w1.cell? ⟨ob, 1, none⟩ = some (.int .i64 on) := hO1.cell 1
          have k2 : w1.cell? ⟨ob, 2, none⟩ = some (.slice AO nO cO) := hO1.cell 2
          have hcnt : l.length + m.length ≤ 9100 ∧ k.length ≤ 150 ∧ sq ≤ 9000 ∧ W.length = m.length ∧ L.length = l.length ∧ P.length = k.length := by
            have h1 := hag.few
            have h2 := hag.pins
            have h3 := hag.seq
            exact ⟨by omega, by omega, by omega, hag.wlen, hag.llen, hag.plen⟩
          have HS := Lib.hid (And.intro hP1 (And.intro hO1 (And.intro hb1w (And.intro hlm2 (And.intro hag (And.intro hKL (And.intro hKx (And.intro q3 (And.intro q2 hnO)))))))))
          have HCN := Lib.hid hcnt
          have HOB := Lib.hid hobe
          subst hvm
          clear hLe hbL hgm2 hlm2 hS1 hbA hmO hag hKL hKx q3 q2 hnO hwl hP1 hO1 hb1w hle HA hcnt
          rw [hobe]
          clear hobe
          go_upto_block 2 with fail
          go_cut [] from 69 to 142 (fun wx => Turned w.heap.size w1 gm2 ob pf pr pb i KL wx)
          case rest =>
            obtain ⟨wt, hwt⟩ : ∃ x, x = wc := ⟨_, rfl⟩
            subst hwt
            have HT := Lib.hid hcut
            clear hcut
            obtain ⟨l5, k5, L5, P5, W5, q5, m5, hpT, hagT, hlT⟩ := HT.out
            have hls := play_list hpT
            have hcT : l5.length + m5.length ≤ 9100 ∧ W5.length = m5.length ∧ L5.length = l5.length := by
              have h1 := hagT.few
              exact ⟨by omega, hagT.wlen, hagT.llen⟩
            obtain ⟨xs, hxs⟩ : ∃ xs, l5.mergeSort leInt = xs := ⟨_, rfl⟩
            obtain ⟨ys, hys⟩ : ∃ ys, (l5 ++ whats m5).mergeSort leInt = ys := ⟨_, rfl⟩
            have hal := fun (wb : World) (h : PlayS w.heap.size wb [gm2, ob] pf l5 q5 m5 k5 pr L5 W5 P5 pb KL) => play_all h (by omega)
            rw [hxs] at hls
            rw [hys] at hal
            have hxl : xs.length ≤ 9100 := by rw [← hxs, List.length_mergeSort]; omega
            have hyl : ys.length ≤ 9100 := by rw [← hys, List.length_mergeSort, List.length_append]; simp [whats]; omega
            have HR := Lib.hid (And.intro hpT (And.intro hagT (And.intro hlT (And.intro hcT (And.intro hxs (And.intro hys (And.intro hxl hyl)))))))
            have HAL := Lib.hid hal
            clear hpT hagT hlT hcT HT hxs hys hxl hyl hal
            go_wp2_with fail
            refine hls.mono ?_
            rintro e wb ⟨va, rfl, hra, hba⟩
            have hal := HAL.out wb (HR.out.1.below hba).1
            obtain ⟨AA, cA, hva⟩ := row_form hra
            have HB := Lib.hid (And.intro hra hba)
            obtain ⟨n5, hn5⟩ : ∃ n, xs.length = n := ⟨_, rfl⟩
            rw [hn5] at hva
            have HN5 := Lib.hid hn5
            subst hva
            clear hra hba hls HAL hn5
            go_wp2_with fail
            refine hal.mono ?_
            rintro e wc ⟨vb, rfl, hrb, hbb⟩
            obtain ⟨AB, cB, hvb⟩ := row_form hrb
            obtain ⟨n6, hn6⟩ : ∃ n, ys.length = n := ⟨_, rfl⟩
            obtain ⟨t1, t2, t3, t4, t5, t6⟩ := two_aside HR.out.1 HB.out.2 HB.out.1 hbb hrb
            rw [hn6] at hvb
            have HN6 := Lib.hid hn6
            subst hvb
            have hka := play_keep t1 t4 t2 HS.out.2.2.2.2.2.1 (by have := HR.out.2.2.2.2.2.2.1; omega)
            have HC := Lib.hid (And.intro t3 (And.intro t4 (And.intro t5 (And.intro t6 t2))))
            clear t1 t2 t3 t4 t5 t6 hrb hbb hal HB hn6
            go_wp2_with fail
            refine hka.mono ?_
            rintro e wd ⟨rfl, KL1, p1, p2, p3, p4, p5⟩
            have hrb1 := row_same HC.out.2.2.1 (fun g hg => p2.keep g (List.mem_append.2 (.inl (by simp [hg]))))
            have hkb := play_keep p1 hrb1 HC.out.1 p3 (by have := HR.out.2.2.2.2.2.2.2; omega)
            have HD := Lib.hid (And.intro p2 (And.intro p3 (And.intro p4 (And.intro p5 hrb1))))
            clear p1 p2 p3 p4 p5 hrb1 hka
            go_wp2_with fail
            refine hkb.mono ?_
            rintro e we ⟨rfl, KL2, p1, p2, p3, p4, p5⟩
            obtain ⟨ra, rb, hk2⟩ := two_rows p1 HS.out.2.2.2.2.2.1 HD.out.2.1 HC.out.2.1 HC.out.2.2.1 HD.out.2.2.1 HD.out.2.2.2.1 p4 p5 HD.out.2.2.2.2 HS.out.2.2.2.2.2.2.1 (by have := HR.out.2.2.2.2.2.2.1; omega) (by have := HR.out.2.2.2.2.2.2.2; omega)
            have hlE := HC.out.2.2.2.1.trans ((show PLeft w.heap.size [gm2, ob] wc wd from ⟨HD.out.1.below, HD.out.1.size, fun x hx => HD.out.1.keep x (List.mem_append.2 (.inr hx))⟩).trans p2)
            have HE := Lib.hid (And.intro p1 (And.intro hlE (And.intro p3 (And.intro ra (And.intro rb hk2)))))
            clear p1 p2 p3 p4 p5 ra rb hk2 hlE hkb HD HC
            obtain ⟨F6, vL, vW, vP, hv6, hc6, hpy⟩ := HE.out.1
            obtain ⟨nL, hnL⟩ : ∃ n, L5.length = n := ⟨_, rfl⟩
            obtain ⟨nW, hnW⟩ : ∃ n, W5.length = n := ⟨_, rfl⟩
            obtain ⟨AL, cL, hvL⟩ := hpy.r.l.form
            obtain ⟨AW, cW, hvW⟩ := row_form hpy.r.wt
            rw [hnL] at hvL
            rw [hnW] at hvW
            subst hvL hvW
            have hOe := (HR.out.2.2.1.trans HE.out.2.1).has HS.out.2.1 (by simp)
            have hKK : ∀ wX, Below we.heap.size we wX → wX.cell? ⟨pr, 0, none⟩ = some (.slice AL nL cL) ∧ wX.cell? ⟨pr, 1, none⟩ = some (.slice AW nW cW) ∧ wX.cell? ⟨ob, 2, none⟩ = some (.slice AO nO cO) := fun wX hb =>
              ⟨(hb.cell (p := ⟨pr, 0, none⟩) hpy.r.has.inside).trans (hpy.r.has.cell 0), (hb.cell (p := ⟨pr, 1, none⟩) hpy.r.has.inside).trans (hpy.r.has.cell 1), (hb.cell (p := ⟨ob, 2, none⟩) hOe.inside).trans (hOe.cell 2)⟩
            have hbD : Below we.heap.size we we.drew := ⟨rfl, rfl, rfl, Nat.le_refl _, fun _ _ => rfl⟩
            have hc1 := hpy.same1 HE.out.2.2.2.1 (HR.out.2.2.2.2.1.symm.trans HR.out.2.1.ls.symm) (by have := HR.out.2.2.2.2.2.2.1; omega) hbD
            have hsz := HE.out.1.size
            have HY := Lib.hid (And.intro hpy (And.intro hnL (And.intro hnW hsz)))
            have HK := Lib.hid hKK
            have HB := Lib.hid hbD
            have hSq := hKK we.drew hbD
            clear hpy hnL hnW hOe hKK hbD hsz
            go_wp2_with fail
            refine wp_region_tills (fun w' => w'.cell? ⟨pr, 0, none⟩ = some (.slice AL nL cL) ∧ w'.cell? ⟨pr, 1, none⟩ = some (.slice AW nW cW) ∧ w'.cell? ⟨ob, 2, none⟩ = some (.slice AO nO cO)) 41 (by kernel_rfl) ?_
            refine till_takeAt 153 (i := 0) (v := .slice AA n5 cA) rfl rfl (by kernel_rfl) (by kernel_rfl) (by kernel_rfl) (by kernel_rfl) (by kernel_rfl) (fun _ _ _ h => h) (Or.inl ⟨by kernel_rfl, fun w' hw' => by obtain ⟨q1, q2, q3⟩ := hw'; go_simp⟩) hSq ?_
            simp only [List.setIfInBounds_toArray, List.set_cons_zero, List.set_cons_succ]
            refine till_takeAt 154 (i := 1) (v := .pointer (some ⟨pr, 0, none⟩)) rfl rfl (by kernel_rfl) (by kernel_rfl) (by kernel_rfl) (by kernel_rfl) (by kernel_rfl) (fun _ _ _ h => h) (Or.inl ⟨by kernel_rfl, fun w' hw' => by obtain ⟨q1, q2, q3⟩ := hw'; go_simp⟩) hSq ?_
            simp only [List.setIfInBounds_toArray, List.set_cons_zero, List.set_cons_succ]
            refine till_takeAt 155 (i := 2) (v := .pointer (some ⟨pr, 0, none⟩)) rfl rfl (by kernel_rfl) (by kernel_rfl) (by kernel_rfl) (by kernel_rfl) (by kernel_rfl) (fun _ _ _ h => h) (Or.inl ⟨by kernel_rfl, fun w' hw' => by obtain ⟨q1, q2, q3⟩ := hw'; go_simp⟩) hSq ?_
            simp only [List.setIfInBounds_toArray, List.set_cons_zero, List.set_cons_succ]
            refine till_takeAt 156 (i := 3) (v := .pointer (some ⟨pr, 0, none⟩)) rfl rfl (by kernel_rfl) (by kernel_rfl) (by kernel_rfl) (by kernel_rfl) (by kernel_rfl) (fun _ _ _ h => h) (Or.inl ⟨by kernel_rfl, fun w' hw' => by obtain ⟨q1, q2, q3⟩ := hw'; go_simp⟩) hSq ?_
            simp only [List.setIfInBounds_toArray, List.set_cons_zero, List.set_cons_succ]
            refine till_takeAt 157 (i := 4) (v := .slice AL nL cL) rfl rfl (by kernel_rfl) (by kernel_rfl) (by kernel_rfl) (by kernel_rfl) (by kernel_rfl) (fun _ _ _ h => h) (Or.inl ⟨by kernel_rfl, fun w' hw' => by obtain ⟨q1, q2, q3⟩ := hw'; go_simp⟩) hSq ?_
            simp only [List.setIfInBounds_toArray, List.set_cons_zero, List.set_cons_succ]
            clear hSq
            refine till_oneG (i := 5) (by kernel_rfl) rfl (by kernel_rfl) (fun K hK => ?_)
            go_simp
            refine hc1.mono ?_
            rintro e wA ⟨rfl, hbX⟩
            have hB := HB.out.trans (hbX.mono HB.out.size)
            have hSq := HK.out wA hB
            have hc2 := HY.out.1.rall hB (by have := HR.out.2.2.2.1; omega) HR.out.2.1.lsort
            refine hK _ _ ⟨fun _ => hSq, ?_⟩
            clear HB
            have HB := Lib.hid hB
            clear hK K hB hc1 hbX
            refine till_takeAt 159 (i := 6) (v := .bool false) rfl rfl (by kernel_rfl) (by kernel_rfl) (by kernel_rfl) (by kernel_rfl) (by kernel_rfl) (fun _ _ _ h => h) (Or.inl ⟨by kernel_rfl, fun w' hw' => by obtain ⟨q1, q2, q3⟩ := hw'; go_simp⟩) hSq ?_
            simp only [List.setIfInBounds_toArray, List.set_cons_zero, List.set_cons_succ]
            refine till_takeAt 160 (i := 7) (v := .bool false) rfl rfl (by kernel_rfl) (by kernel_rfl) (by kernel_rfl) (by kernel_rfl) (by kernel_rfl) (fun _ _ _ h => h) (Or.inl ⟨by kernel_rfl, fun w' hw' => by obtain ⟨q1, q2, q3⟩ := hw'; go_simp⟩) hSq ?_
            simp only [List.setIfInBounds_toArray, List.set_cons_zero, List.set_cons_succ]
            refine till_takeAt 161 (i := 8) (v := .slice AB n6 cB) rfl rfl (by kernel_rfl) (by kernel_rfl) (by kernel_rfl) (by kernel_rfl) (by kernel_rfl) (fun _ _ _ h => h) (Or.inl ⟨by kernel_rfl, fun w' hw' => by obtain ⟨q1, q2, q3⟩ := hw'; go_simp⟩) hSq ?_
            simp only [List.setIfInBounds_toArray, List.set_cons_zero, List.set_cons_succ]
            refine till_takeAt 162 (i := 9) (v := .pointer (some ⟨pr, 0, none⟩)) rfl rfl (by kernel_rfl) (by kernel_rfl) (by kernel_rfl) (by kernel_rfl) (by kernel_rfl) (fun _ _ _ h => h) (Or.inl ⟨by kernel_rfl, fun w' hw' => by obtain ⟨q1, q2, q3⟩ := hw'; go_simp⟩) hSq ?_
            simp only [List.setIfInBounds_toArray, List.set_cons_zero, List.set_cons_succ]
            clear hSq
            refine till_oneG (i := 10) (by kernel_rfl) rfl (by kernel_rfl) (fun K hK => ?_)
            go_simp
            refine hc2.mono ?_
            rintro e wB ⟨vR, mR, rfl, hrR, hpR, hsR, hbX⟩
            have hB := HB.out.trans (hbX.mono HB.out.size)
            have hSq := HK.out wB hB
            obtain ⟨AR, cR, hvR⟩ := row_form hrR
            have hc3 := Play.same2 HE.out.2.2.2.2.1 hrR ((HR.out.2.1.all hpR hsR).trans HR.out.2.2.2.2.2.1) (by have := HR.out.2.2.2.2.2.2.2; omega) hB
            refine hK _ _ ⟨fun _ => hSq, ?_⟩
            clear HB
            have HB := Lib.hid hB
            clear hK K hB hc2 hbX hrR hpR hsR
            subst hvR
            generalize mR.length = nR at *
            clear HN5 HN6
            clear hSq
            refine till_oneG (i := 11) (by kernel_rfl) rfl (by kernel_rfl) (fun K hK => ?_)
            go_simp
            refine hc3.mono ?_
            rintro e wC ⟨rfl, hbX⟩
            have hB := HB.out.trans (hbX.mono HB.out.size)
            have hSq := HK.out wC hB
            have hc4 := play_len HE.out.1 hB
            rw [show l5.length = nL by have := HR.out.2.2.2.1.2.2; have := HY.out.2.1; omega] at hc4
            refine hK _ _ ⟨fun _ => hSq, ?_⟩
            clear HB
            have HB := Lib.hid hB
            clear hK K hB hc3 hbX
            refine till_takeAt 165 (i := 12) (v := .bool false) rfl rfl (by kernel_rfl) (by kernel_rfl) (by kernel_rfl) (by kernel_rfl) (by kernel_rfl) (fun _ _ _ h => h) (Or.inl ⟨by kernel_rfl, fun w' hw' => by obtain ⟨q1, q2, q3⟩ := hw'; go_simp⟩) hSq ?_
            simp only [List.setIfInBounds_toArray, List.set_cons_zero, List.set_cons_succ]
            refine till_takeAt 166 (i := 13) (v := .bool false) rfl rfl (by kernel_rfl) (by kernel_rfl) (by kernel_rfl) (by kernel_rfl) (by kernel_rfl) (fun _ _ _ h => h) (Or.inl ⟨by kernel_rfl, fun w' hw' => by obtain ⟨q1, q2, q3⟩ := hw'; go_simp⟩) hSq ?_
            simp only [List.setIfInBounds_toArray, List.set_cons_zero, List.set_cons_succ]
            refine till_takeAt 167 (i := 14) (v := .bool false) rfl rfl (by kernel_rfl) (by kernel_rfl) (by kernel_rfl) (by kernel_rfl) (by kernel_rfl) (fun _ _ _ h => h) (Or.inl ⟨by kernel_rfl, fun w' hw' => by obtain ⟨q1, q2, q3⟩ := hw'; go_simp⟩) hSq ?_
            simp only [List.setIfInBounds_toArray, List.set_cons_zero, List.set_cons_succ]
            refine till_takeAt 168 (i := 15) (v := .pointer (some ⟨pf, 0, none⟩)) rfl rfl (by kernel_rfl) (by kernel_rfl) (by kernel_rfl) (by kernel_rfl) (by kernel_rfl) (fun _ _ _ h => h) (Or.inl ⟨by kernel_rfl, fun w' hw' => by obtain ⟨q1, q2, q3⟩ := hw'; go_simp⟩) hSq ?_
            simp only [List.setIfInBounds_toArray, List.set_cons_zero, List.set_cons_succ]
            refine till_takeAt 170 (i := 17) (v := .pointer (some ⟨pr, 0, none⟩)) rfl rfl (by kernel_rfl) (by kernel_rfl) (by kernel_rfl) (by kernel_rfl) (by kernel_rfl) (fun _ _ _ h => h) (Or.inl ⟨by kernel_rfl, fun w' hw' => by obtain ⟨q1, q2, q3⟩ := hw'; go_simp⟩) hSq ?_
            simp only [List.setIfInBounds_toArray, List.set_cons_zero, List.set_cons_succ]
            refine till_takeAt 171 (i := 18) (v := .pointer (some ⟨pr, 0, none⟩)) rfl rfl (by kernel_rfl) (by kernel_rfl) (by kernel_rfl) (by kernel_rfl) (by kernel_rfl) (fun _ _ _ h => h) (Or.inl ⟨by kernel_rfl, fun w' hw' => by obtain ⟨q1, q2, q3⟩ := hw'; go_simp⟩) hSq ?_
            simp only [List.setIfInBounds_toArray, List.set_cons_zero, List.set_cons_succ]
            refine till_takeAt 172 (i := 19) (v := .pointer (some ⟨pr, 0, none⟩)) rfl rfl (by kernel_rfl) (by kernel_rfl) (by kernel_rfl) (by kernel_rfl) (by kernel_rfl) (fun _ _ _ h => h) (Or.inl ⟨by kernel_rfl, fun w' hw' => by obtain ⟨q1, q2, q3⟩ := hw'; go_simp⟩) hSq ?_
            simp only [List.setIfInBounds_toArray, List.set_cons_zero, List.set_cons_succ]
            refine till_takeAt 173 (i := 20) (v := .slice AL nL cL) rfl rfl (by kernel_rfl) (by kernel_rfl) (by kernel_rfl) (by kernel_rfl) (by kernel_rfl) (fun _ _ _ h => h) (Or.inl ⟨by kernel_rfl, fun w' hw' => by obtain ⟨q1, q2, q3⟩ := hw'; go_simp⟩) hSq ?_
            simp only [List.setIfInBounds_toArray, List.set_cons_zero, List.set_cons_succ]
            refine till_takeAt 174 (i := 21) (v := .int .i64 nL) rfl rfl (by kernel_rfl) (by kernel_rfl) (by kernel_rfl) (by kernel_rfl) (by kernel_rfl) (fun _ _ _ h => h) (Or.inl ⟨by kernel_rfl, fun w' hw' => by obtain ⟨q1, q2, q3⟩ := hw'; go_simp⟩) hSq ?_
            simp only [List.setIfInBounds_toArray, List.set_cons_zero, List.set_cons_succ]
            refine till_oneG (i := 16) (by kernel_rfl) rfl (by kernel_rfl) (fun K hK => ?_)
            go_simp
            refine hc4.mono ?_
            rintro e wD ⟨rfl, hwD⟩
            subst hwD
            have hc5 := play_waiting HE.out.1 HB.out
            rw [show m5.length = nW by have := HR.out.2.2.2.1.2.1; have := HY.out.2.2.1; omega] at hc5
            refine hK _ _ ⟨fun _ => hSq, ?_⟩
            clear hK K hc4
            refine till_takeAt 175 (i := 22) (v := .bool false) rfl rfl (by kernel_rfl) (by kernel_rfl) (by kernel_rfl) (by kernel_rfl) (by kernel_rfl) (fun _ _ _ h => h) (Or.inl ⟨by kernel_rfl, fun w' hw' => by obtain ⟨q1, q2, q3⟩ := hw'; go_simp⟩) hSq ?_
            simp only [List.setIfInBounds_toArray, List.set_cons_zero, List.set_cons_succ]
            refine till_takeAt 176 (i := 23) (v := .bool false) rfl rfl (by kernel_rfl) (by kernel_rfl) (by kernel_rfl) (by kernel_rfl) (by kernel_rfl) (fun _ _ _ h => h) (Or.inl ⟨by kernel_rfl, fun w' hw' => by obtain ⟨q1, q2, q3⟩ := hw'; go_simp⟩) hSq ?_
            simp only [List.setIfInBounds_toArray, List.set_cons_zero, List.set_cons_succ]
            refine till_takeAt 177 (i := 24) (v := .bool false) rfl rfl (by kernel_rfl) (by kernel_rfl) (by kernel_rfl) (by kernel_rfl) (by kernel_rfl) (fun _ _ _ h => h) (Or.inl ⟨by kernel_rfl, fun w' hw' => by obtain ⟨q1, q2, q3⟩ := hw'; go_simp⟩) hSq ?_
            simp only [List.setIfInBounds_toArray, List.set_cons_zero, List.set_cons_succ]
            refine till_takeAt 178 (i := 25) (v := .pointer (some ⟨pf, 0, none⟩)) rfl rfl (by kernel_rfl) (by kernel_rfl) (by kernel_rfl) (by kernel_rfl) (by kernel_rfl) (fun _ _ _ h => h) (Or.inl ⟨by kernel_rfl, fun w' hw' => by obtain ⟨q1, q2, q3⟩ := hw'; go_simp⟩) hSq ?_
            simp only [List.setIfInBounds_toArray, List.set_cons_zero, List.set_cons_succ]
            refine till_takeAt 180 (i := 27) (v := .pointer (some ⟨pr, 0, none⟩)) rfl rfl (by kernel_rfl) (by kernel_rfl) (by kernel_rfl) (by kernel_rfl) (by kernel_rfl) (fun _ _ _ h => h) (Or.inl ⟨by kernel_rfl, fun w' hw' => by obtain ⟨q1, q2, q3⟩ := hw'; go_simp⟩) hSq ?_
            simp only [List.setIfInBounds_toArray, List.set_cons_zero, List.set_cons_succ]
            refine till_takeAt 181 (i := 28) (v := .pointer (some ⟨pr, 0, none⟩)) rfl rfl (by kernel_rfl) (by kernel_rfl) (by kernel_rfl) (by kernel_rfl) (by kernel_rfl) (fun _ _ _ h => h) (Or.inl ⟨by kernel_rfl, fun w' hw' => by obtain ⟨q1, q2, q3⟩ := hw'; go_simp⟩) hSq ?_
            simp only [List.setIfInBounds_toArray, List.set_cons_zero, List.set_cons_succ]
            refine till_takeAt 182 (i := 29) (v := .pointer (some ⟨pr, 1, none⟩)) rfl rfl (by kernel_rfl) (by kernel_rfl) (by kernel_rfl) (by kernel_rfl) (by kernel_rfl) (fun _ _ _ h => h) (Or.inl ⟨by kernel_rfl, fun w' hw' => by obtain ⟨q1, q2, q3⟩ := hw'; go_simp⟩) hSq ?_
            simp only [List.setIfInBounds_toArray, List.set_cons_zero, List.set_cons_succ]
            refine till_takeAt 183 (i := 30) (v := .slice AW nW cW) rfl rfl (by kernel_rfl) (by kernel_rfl) (by kernel_rfl) (by kernel_rfl) (by kernel_rfl) (fun _ _ _ h => h) (Or.inl ⟨by kernel_rfl, fun w' hw' => by obtain ⟨q1, q2, q3⟩ := hw'; go_simp⟩) hSq ?_
            simp only [List.setIfInBounds_toArray, List.set_cons_zero, List.set_cons_succ]
            refine till_takeAt 184 (i := 31) (v := .int .i64 nW) rfl rfl (by kernel_rfl) (by kernel_rfl) (by kernel_rfl) (by kernel_rfl) (by kernel_rfl) (fun _ _ _ h => h) (Or.inl ⟨by kernel_rfl, fun w' hw' => by obtain ⟨q1, q2, q3⟩ := hw'; go_simp⟩) hSq ?_
            simp only [List.setIfInBounds_toArray, List.set_cons_zero, List.set_cons_succ]
            refine till_oneG (i := 26) (by kernel_rfl) rfl (by kernel_rfl) (fun K hK => ?_)
            go_simp
            refine hc5.mono ?_
            rintro e wE ⟨rfl, hwE⟩
            subst hwE
            have hc6 := play_stays HS.out.2.2.2.1 (HR.out.2.2.1.trans HE.out.2.1) (by simp) (HS.out.2.2.2.2.2.2.2.1.below HS.out.2.2.1) HY.out.2.2.2 HB.out (by rw [HS.out.2.2.2.2.2.2.2.2.2]; omega)
            refine hK _ _ ⟨fun _ => hSq, ?_⟩
            clear hK K hc5
            refine till_takeAt 185 (i := 32) (v := .bool false) rfl rfl (by kernel_rfl) (by kernel_rfl) (by kernel_rfl) (by kernel_rfl) (by kernel_rfl) (fun _ _ _ h => h) (Or.inl ⟨by kernel_rfl, fun w' hw' => by obtain ⟨q1, q2, q3⟩ := hw'; go_simp⟩) hSq ?_
            simp only [List.setIfInBounds_toArray, List.set_cons_zero, List.set_cons_succ]
            refine till_takeAt 186 (i := 33) (v := .bool false) rfl rfl (by kernel_rfl) (by kernel_rfl) (by kernel_rfl) (by kernel_rfl) (by kernel_rfl) (fun _ _ _ h => h) (Or.inl ⟨by kernel_rfl, fun w' hw' => by obtain ⟨q1, q2, q3⟩ := hw'; go_simp⟩) hSq ?_
            simp only [List.setIfInBounds_toArray, List.set_cons_zero, List.set_cons_succ]
            refine till_takeAt 187 (i := 34) (v := .bool false) rfl rfl (by kernel_rfl) (by kernel_rfl) (by kernel_rfl) (by kernel_rfl) (by kernel_rfl) (fun _ _ _ h => h) (Or.inl ⟨by kernel_rfl, fun w' hw' => by obtain ⟨q1, q2, q3⟩ := hw'; go_simp⟩) hSq ?_
            simp only [List.setIfInBounds_toArray, List.set_cons_zero, List.set_cons_succ]
            refine till_takeAt 188 (i := 35) (v := .slice (some ⟨gm2, 0, none⟩) nO cm2) rfl rfl (by kernel_rfl) (by kernel_rfl) (by kernel_rfl) (by kernel_rfl) (by kernel_rfl) (fun _ _ _ h => h) (Or.inl ⟨by kernel_rfl, fun w' hw' => by obtain ⟨q1, q2, q3⟩ := hw'; go_simp⟩) hSq ?_
            simp only [List.setIfInBounds_toArray, List.set_cons_zero, List.set_cons_succ]
            refine till_takeAt 189 (i := 36) (v := .pointer (some ⟨ob, 2, none⟩)) rfl rfl (by kernel_rfl) (by kernel_rfl) (by kernel_rfl) (by kernel_rfl) (by kernel_rfl) (fun _ _ _ h => h) (Or.inl ⟨by kernel_rfl, fun w' hw' => by obtain ⟨q1, q2, q3⟩ := hw'; go_simp⟩) hSq ?_
            simp only [List.setIfInBounds_toArray, List.set_cons_zero, List.set_cons_succ]
            refine till_takeAt 190 (i := 37) (v := .slice AO nO cO) rfl rfl (by kernel_rfl) (by kernel_rfl) (by kernel_rfl) (by kernel_rfl) (by kernel_rfl) (fun _ _ _ h => h) (Or.inl ⟨by kernel_rfl, fun w' hw' => by obtain ⟨q1, q2, q3⟩ := hw'; go_simp⟩) hSq ?_
            simp only [List.setIfInBounds_toArray, List.set_cons_zero, List.set_cons_succ]
            clear hSq
            refine till_oneG (i := 38) (by kernel_rfl) rfl (by kernel_rfl) (fun K hK => ?_)
            go_simp
            refine hc6.mono ?_
            rintro e wF ⟨rfl, hbX⟩
            have hB := HB.out.trans (hbX.mono HB.out.size)
            have hSq := HK.out wF hB
            refine hK _ _ ⟨fun _ => hSq, ?_⟩
            clear HB
            have HB := Lib.hid hB
            clear hK K hB hc6 hbX
            refine till_takeAt 192 (i := 39) (v := .bool false) rfl rfl (by kernel_rfl) (by kernel_rfl) (by kernel_rfl) (by kernel_rfl) (by kernel_rfl) (fun _ _ _ h => h) (Or.inl ⟨by kernel_rfl, fun w' hw' => by obtain ⟨q1, q2, q3⟩ := hw'; go_simp⟩) hSq ?_
            simp only [List.setIfInBounds_toArray, List.set_cons_zero, List.set_cons_succ]
            refine till_takeAt 193 (i := 40) (v := .bool false) rfl rfl (by kernel_rfl) (by kernel_rfl) (by kernel_rfl) (by kernel_rfl) (by kernel_rfl) (fun _ _ _ h => h) (Or.inl ⟨by kernel_rfl, fun w' hw' => by obtain ⟨q1, q2, q3⟩ := hw'; go_simp⟩) hSq ?_
            simp only [List.setIfInBounds_toArray, List.set_cons_zero, List.set_cons_succ]
            clear hSq
            refine till_done (by kernel_rfl) ?_ _
            go_wp2_with fail
            go_roundg (N - (i + 1))
            case measure => have := hHI.out; omega
            case rel =>
              refine ⟨i + 1, l5, k5, L5, P5, W5, q5, m5, KL2, by go_num, by omega, (HE.out.1.below HB.out).1.less (by simp), HR.out.2.1, HE.out.2.2.1, HE.out.2.2.2.2.2, ?_⟩
              exact HS.out.2.2.1.trans (HR.out.2.2.1.below.trans (HE.out.2.1.below.trans (HB.out.mono HE.out.1.size)))
          case first =>
            rcases (show ok = 1 ∨ ok = 2 ∨ ok = 3 ∨ ok = 4 ∨ ok = 5 ∨ (ok ≠ 1 ∧ ok ≠ 2 ∧ ok ≠ 3 ∧ ok ≠ 4 ∧ ok ≠ 5) by omega) with rfl | rfl | rfl | rfl | rfl | ⟨hk1, hk2, hk3, hk4, hk5⟩
            · by_cases hl0 : l = []
              · have htk : Calls Tryz.prog 10 #[.pointer (some ⟨pf, 0, none⟩)] w1 fun e w' => e = .returned (.tuple #[.int .i64 0, .bool false]) ∧ w' = w1 := by
                  have h := HS.out.1
                  rw [hl0] at h
                  exact play_take_none h
                have hrt : Calls Tryz.prog 11 #[.pointer (some ⟨pr, 0, none⟩)] w1 fun e w' => e = .returned (.tuple #[.int .i64 0, .bool false]) ∧ w' = w1 := by
                  have h := HS.out.1
                  have hL0 : L = [] := List.eq_nil_of_length_eq_zero (by have := HCN.out.2.2.2.2.1; rw [hl0] at this; simpa using this)
                  rw [hL0] at h
                  exact play_rtake_none h
                have HT := Lib.hid (show Turned w.heap.size w1 gm2 ob pf pr pb i KL w1 from ⟨l, k, L, P, W, sq, m, HS.out.1, HS.out.2.2.2.2.1.next, PLeft.refl _ _ _⟩)
                clear hl0
                go_wp2_with fail
                refine htk.mono ?_
                rintro e wq ⟨rfl, hwq⟩
                have hwq := hwq.symm
                subst hwq
                go_wp2_with fail
                refine hrt.mono ?_
                rintro e wq ⟨rfl, hwq⟩
                have hwq := hwq.symm
                subst hwq
                clear htk hrt
                obtain ⟨wt, hwt⟩ : ∃ x, x = w1 := ⟨_, rfl⟩
                subst hwt
                go_wp2_with fail
                go_meet
                exact HT.out
              · obtain ⟨x, s, hp, hm⟩ := int_least l hl0
                have htk := play_take HS.out.1 hp hm
                obtain ⟨hLx, hag⟩ := HS.out.2.2.2.2.1.take hp hm
                have hsl : (s.mergeSort leInt).length < 100000 := by
                  have h1 := HCN.out.1
                  have h2 := hp.length_eq
                  rw [List.length_mergeSort]
                  simp at h2
                  omega
                have HG := Lib.hid (And.intro hLx (And.intro hag hsl))
                clear hl0 hp hm hLx hag hsl
                go_wp2_with fail
                refine htk.mono ?_
                rintro e wa ⟨rfl, hpa, hla⟩
                rw [HG.out.1] at hpa
                have hrt := play_rtake hpa HG.out.2.2
                have HA := Lib.hid hla
                clear hpa hla htk
                go_wp2_with fail
                refine hrt.mono ?_
                rintro e wt ⟨rfl, hpt, hlt2⟩
                have HT := Lib.hid (show Turned w.heap.size w1 gm2 ob pf pr pb i KL wt from ⟨_, _, _, _, _, _, _, hpt, HG.out.2.1, HA.out.trans hlt2⟩)
                clear hpt hlt2 hrt HA HG
                go_wp2_with fail
                go_meet
                exact HT.out
            · have hgv := play_give on HS.out.1 (HS.out.2.2.2.1.readsS (by simp)) (by rw [HS.out.2.2.2.2.2.2.2.2.2]; have := HCN.out; omega) (by rw [HS.out.2.2.2.2.2.2.2.2.2]; have := HCN.out; omega)
              go_wp2_with fail
              refine hgv.mono ?_
              rintro e wa ⟨rfl, hpa, hla⟩
              have hOa := hla.has HS.out.2.1 (by simp)
              have a1 : wa.cell? ⟨ob, 1, none⟩ = some (.int .i64 on) := hOa.cell 1
              have a2 : wa.cell? ⟨ob, 2, none⟩ = some (.slice AO nO cO) := hOa.cell 2
              have hba := HS.out.2.2.1.trans hla.below
              have hrg := play_rgive on hpa (HS.out.2.2.2.2.2.2.2.1.readsS hba hba.size) (by rw [HS.out.2.2.2.2.2.2.2.2.2]; have := HCN.out; omega)
              have HA := Lib.hid hla
              clear hpa hla hOa hba hgv
              go_wp2_with fail
              refine hrg.mono ?_
              rintro e wt ⟨rfl, hpt, hlt2⟩
              have HT := Lib.hid (show Turned w.heap.size w1 gm2 ob pf pr pb i KL wt from ⟨_, _, _, _, _, _, _, hpt, HS.out.2.2.2.2.1.give on HS.out.2.2.2.2.2.2.2.2.1.2 (by rw [HS.out.2.2.2.2.2.2.2.2.2]; omega), HA.out.trans hlt2⟩)
              clear hpt hlt2 hrg HA a1 a2
              go_wp2_with fail
              go_meet
              exact HT.out
            · have hbk := play_back HS.out.1 (HS.out.2.2.2.1.readsS (by simp)) (by rw [HS.out.2.2.2.2.2.2.2.2.2]; have := HCN.out; omega)
              go_wp2_with fail
              refine hbk.mono ?_
              rintro e wa ⟨rfl, hpa, hla⟩
              have hOa := hla.has HS.out.2.1 (by simp)
              have a2 : wa.cell? ⟨ob, 2, none⟩ = some (.slice AO nO cO) := hOa.cell 2
              have hba := HS.out.2.2.1.trans hla.below
              have hrb := play_rback hpa (HS.out.2.2.2.2.2.2.2.1.readsS hba hba.size) (by rw [HS.out.2.2.2.2.2.2.2.2.2]; have := HCN.out; omega) HS.out.2.2.2.2.1.lsort
              have HA := Lib.hid hla
              clear hpa hla hOa hba hbk
              go_wp2_with fail
              refine hrb.mono ?_
              rintro e wt ⟨rfl, Lq, hpt, hlt2, hpm, hso⟩
              have HT := Lib.hid (show Turned w.heap.size w1 gm2 ob pf pr pb i KL wt from ⟨_, _, _, _, _, _, _, hpt, HS.out.2.2.2.2.1.back hpm hso (by rw [HS.out.2.2.2.2.2.2.2.2.2]; omega), HA.out.trans hlt2⟩)
              clear hpt hlt2 hrb HA a2 hpm hso
              go_wp2_with fail
              go_meet
              exact HT.out
            · have hpn := play_pin on HS.out.1 (by have := HCN.out; omega)
              go_wp2_with fail
              refine hpn.mono ?_
              rintro e wa ⟨rfl, hpa, hla⟩
              have hOa := hla.has HS.out.2.1 (by simp)
              have hol := lt_of_block hOa
              have a1 : wa.cell? ⟨ob, 1, none⟩ = some (.int .i64 on) := hOa.cell 1
              obtain ⟨F6, vL, vW, vP, hv6, hc6, hpy⟩ := hpa
              have c2' := hpy.r.has.cell 2
              simp at c2'
              have hpu := refPut_any (w := wa.drew) on (hpy.r.pi.kept (F := []) (Kept.refl _ _).drew (by simp)) (by have := HCN.out; omega)
              obtain ⟨A6, c6, hu6⟩ := hpy.r.pi.form
              obtain ⟨nP, hnP⟩ : ∃ n, P.length = n := ⟨_, rfl⟩
              rw [hnP] at hu6
              subst hu6
              have hSq : wa.drew.cell? ⟨pr, 2, none⟩ = some (.slice A6 nP c6) ∧ wa.drew.cell? ⟨ob, 1, none⟩ = some (.int .i64 on) := ⟨c2', a1⟩
              have HA := Lib.hid (And.intro hla (And.intro hpy (And.intro hOa (And.intro hol hnP))))
              clear hla hpy hOa hol hnP hpn
              go_wp2_with fail
              refine wp_region_tills (fun w' => w'.cell? ⟨pr, 2, none⟩ = some (.slice A6 nP c6) ∧ w'.cell? ⟨ob, 1, none⟩ = some (.int .i64 on)) 8 (by kernel_rfl) ?_
              refine till_takeAt 122 (i := 0) (v := .pointer (some ⟨pr, 0, none⟩)) rfl rfl (by kernel_rfl) (by kernel_rfl) (by kernel_rfl) (by kernel_rfl) (by kernel_rfl) (fun _ _ _ h => h) (Or.inl ⟨by rfl, fun w' hw' => by obtain ⟨q1, q2⟩ := hw'; go_simp⟩) hSq ?_
              simp only [List.setIfInBounds_toArray, List.set_cons_zero, List.set_cons_succ]
              refine till_takeAt 123 (i := 1) (v := .pointer (some ⟨pr, 0, none⟩)) rfl rfl (by kernel_rfl) (by kernel_rfl) (by kernel_rfl) (by kernel_rfl) (by kernel_rfl) (fun _ _ _ h => h) (Or.inl ⟨by rfl, fun w' hw' => by obtain ⟨q1, q2⟩ := hw'; go_simp⟩) hSq ?_
              simp only [List.setIfInBounds_toArray, List.set_cons_zero, List.set_cons_succ]
              refine till_takeAt 124 (i := 2) (v := .pointer (some ⟨pr, 0, none⟩)) rfl rfl (by kernel_rfl) (by kernel_rfl) (by kernel_rfl) (by kernel_rfl) (by kernel_rfl) (fun _ _ _ h => h) (Or.inl ⟨by rfl, fun w' hw' => by obtain ⟨q1, q2⟩ := hw'; go_simp⟩) hSq ?_
              simp only [List.setIfInBounds_toArray, List.set_cons_zero, List.set_cons_succ]
              refine till_takeAt 125 (i := 3) (v := .pointer (some ⟨pr, 2, none⟩)) rfl rfl (by kernel_rfl) (by kernel_rfl) (by kernel_rfl) (by kernel_rfl) (by kernel_rfl) (fun _ _ _ h => h) (Or.inl ⟨by rfl, fun w' hw' => by obtain ⟨q1, q2⟩ := hw'; go_simp⟩) hSq ?_
              simp only [List.setIfInBounds_toArray, List.set_cons_zero, List.set_cons_succ]
              refine till_takeAt 126 (i := 4) (v := .slice A6 nP c6) rfl rfl (by kernel_rfl) (by kernel_rfl) (by kernel_rfl) (by kernel_rfl) (by kernel_rfl) (fun _ _ _ h => h) (Or.inl ⟨by rfl, fun w' hw' => by obtain ⟨q1, q2⟩ := hw'; go_simp⟩) hSq ?_
              simp only [List.setIfInBounds_toArray, List.set_cons_zero, List.set_cons_succ]
              refine till_takeAt 127 (i := 5) (v := .pointer (some ⟨ob, 1, none⟩)) rfl rfl (by kernel_rfl) (by kernel_rfl) (by kernel_rfl) (by kernel_rfl) (by kernel_rfl) (fun _ _ _ h => h) (Or.inl ⟨by rfl, fun w' hw' => by obtain ⟨q1, q2⟩ := hw'; go_simp⟩) hSq ?_
              simp only [List.setIfInBounds_toArray, List.set_cons_zero, List.set_cons_succ]
              refine till_takeAt 128 (i := 6) (v := .int .i64 on) rfl rfl (by kernel_rfl) (by kernel_rfl) (by kernel_rfl) (by kernel_rfl) (by kernel_rfl) (fun _ _ _ h => h) (Or.inl ⟨by rfl, fun w' hw' => by obtain ⟨q1, q2⟩ := hw'; go_simp⟩) hSq ?_
              simp only [List.setIfInBounds_toArray, List.set_cons_zero, List.set_cons_succ]
              clear hSq
              refine till_one (i := 7) (by kernel_rfl) rfl rfl (fun K hK => ?_)
              go_simp
              refine hpu.mono ?_
              rintro e w2 ⟨v2, mm, rfl, him, ho2, hb2⟩
              obtain ⟨hla, hpy, hOa, hol, hnP⟩ := HA.out
              have hb2' : Below wa.heap.size wa w2 := ⟨hb2.os, hb2.tape, hb2.output, hb2.size, hb2.block⟩
              obtain ⟨h1s, h2s⟩ := hpy.r.setP hb2' (RdI.row ho2) (fun g hg => .inr (ho2.lt g hg).1)
              obtain ⟨hpt, hlt2⟩ := hpy.turnR h1s h2s
              have hf1 := (hpy.r.below hb2').has.free 2
              have hf2 : w2.cell? ⟨pr, 2, none⟩ = some (.slice A6 nP c6) := (hpy.r.below hb2').has.cell 2
              have hf3 : w2.cell? ⟨ob, 1, none⟩ = some (.int .i64 on) := (hb2'.cell (p := ⟨ob, 1, none⟩) hol).trans a1
              obtain ⟨A5, c5, hv5⟩ := row_form ho2
              have HT := Lib.hid (show Turned w.heap.size w1 gm2 ob pf pr pb i KL (w2.setCell ⟨pr, 2, none⟩ v2) from ⟨_, _, _, _, _, _, _, hpt, HS.out.2.2.2.2.1.pin him, hla.trans hlt2⟩)
              refine hK _ _ ⟨fun _ => ⟨hf2, hf3⟩, ?_⟩
              subst hv5
              clear hpt hlt2 h1s h2s hla hpy hOa hol hnP hpu ho2 hb2 hb2' him a1 c2' hK K
              refine till_one (i := 8) (by kernel_rfl) rfl rfl (fun K hK => ?_)
              go_simp
              refine hK _ _ ⟨fun h => absurd h (by omega), ?_⟩
              clear hK K
              refine till_one (i := 9) (by kernel_rfl) rfl rfl (fun K hK => ?_)
              go_simp
              refine hK _ _ ⟨fun h => absurd h (by omega), ?_⟩
              clear hK K
              refine till_one (i := 10) (by kernel_rfl) rfl rfl (fun K hK => ?_)
              go_simp
              refine hK _ _ ⟨fun h => absurd h (by omega), till_done (by kernel_rfl) ?_ _⟩
              clear hK K
              obtain ⟨wt, hwt⟩ : ∃ x, x = w2.setCell ⟨pr, 2, none⟩ (.slice A5 mm.length c5) := ⟨_, rfl⟩
              rw [← hwt] at HT ⊢
              clear hwt hf1 hf2 hf3
              go_wp2_with fail
              go_meet
              exact HT.out
            · have hup := play_unpin on HS.out.1.drew
              obtain ⟨hde, hag⟩ := HS.out.2.2.2.2.1.unpin on
              have HG := Lib.hid hag
              obtain ⟨bb, hbb⟩ : ∃ b, decide (on ∈ k) = b := ⟨_, rfl⟩
              have hbb2 : decide (on ∈ P) = bb := by rw [← hde]; exact hbb
              rw [hbb] at hup
              have HBB := Lib.hid hbb2
              clear hde hag hbb hbb2
              have hSq : w1.drew.cell? ⟨ob, 1, none⟩ = some (.int .i64 on) := k1
              go_wp2_with fail
              refine wp_region_tills (fun w' => w'.cell? ⟨ob, 1, none⟩ = some (.int .i64 on)) 7 (by kernel_rfl) ?_
              refine till_takeAt 134 (i := 0) (v := .pointer (some ⟨pf, 0, none⟩)) rfl rfl (by kernel_rfl) (by kernel_rfl) (by kernel_rfl) (by kernel_rfl) (by kernel_rfl) (fun _ _ _ h => h) (Or.inl ⟨by rfl, fun w' hw' => by obtain q1 := hw'; go_simp⟩) hSq ?_
              simp only [List.setIfInBounds_toArray, List.set_cons_zero, List.set_cons_succ]
              refine till_takeAt 135 (i := 1) (v := .pointer (some ⟨ob, 1, none⟩)) rfl rfl (by kernel_rfl) (by kernel_rfl) (by kernel_rfl) (by kernel_rfl) (by kernel_rfl) (fun _ _ _ h => h) (Or.inl ⟨by rfl, fun w' hw' => by obtain q1 := hw'; go_simp⟩) hSq ?_
              simp only [List.setIfInBounds_toArray, List.set_cons_zero, List.set_cons_succ]
              refine till_takeAt 136 (i := 2) (v := .int .i64 on) rfl rfl (by kernel_rfl) (by kernel_rfl) (by kernel_rfl) (by kernel_rfl) (by kernel_rfl) (fun _ _ _ h => h) (Or.inl ⟨by rfl, fun w' hw' => by obtain q1 := hw'; go_simp⟩) hSq ?_
              simp only [List.setIfInBounds_toArray, List.set_cons_zero, List.set_cons_succ]
              refine till_takeAt 138 (i := 4) (v := .pointer (some ⟨pr, 0, none⟩)) rfl rfl (by kernel_rfl) (by kernel_rfl) (by kernel_rfl) (by kernel_rfl) (by kernel_rfl) (fun _ _ _ h => h) (Or.inl ⟨by rfl, fun w' hw' => by obtain q1 := hw'; go_simp⟩) hSq ?_
              simp only [List.setIfInBounds_toArray, List.set_cons_zero, List.set_cons_succ]
              refine till_takeAt 139 (i := 5) (v := .pointer (some ⟨ob, 1, none⟩)) rfl rfl (by kernel_rfl) (by kernel_rfl) (by kernel_rfl) (by kernel_rfl) (by kernel_rfl) (fun _ _ _ h => h) (Or.inl ⟨by rfl, fun w' hw' => by obtain q1 := hw'; go_simp⟩) hSq ?_
              simp only [List.setIfInBounds_toArray, List.set_cons_zero, List.set_cons_succ]
              refine till_takeAt 140 (i := 6) (v := .int .i64 on) rfl rfl (by kernel_rfl) (by kernel_rfl) (by kernel_rfl) (by kernel_rfl) (by kernel_rfl) (fun _ _ _ h => h) (Or.inl ⟨by rfl, fun w' hw' => by obtain q1 := hw'; go_simp⟩) hSq ?_
              simp only [List.setIfInBounds_toArray, List.set_cons_zero, List.set_cons_succ]
              clear hSq
              refine till_one (i := 3) (by kernel_rfl) rfl rfl (fun K hK => ?_)
              go_simp
              refine hup.mono ?_
              rintro e wa ⟨rfl, hpa, hla⟩
              have hla' := (PLeft.drew _ _ _).trans hla
              have hOa := hla'.has HS.out.2.1 (by simp)
              have a1 : wa.cell? ⟨ob, 1, none⟩ = some (.int .i64 on) := hOa.cell 1
              have hru := play_runpin on hpa (by have := HCN.out; omega)
              rw [HBB.out] at hru
              have HA := Lib.hid hla'
              refine hK _ _ ⟨fun _ => a1, ?_⟩
              clear hpa hla hla' hOa hup hK K
              refine till_one (i := 7) (by kernel_rfl) rfl rfl (fun K hK => ?_)
              go_simp
              refine hru.mono ?_
              rintro e wt ⟨rfl, hpt, hlt2⟩
              have HT := Lib.hid (show Turned w.heap.size w1 gm2 ob pf pr pb i KL wt from ⟨_, _, _, _, _, _, _, hpt, HG.out, HA.out.trans hlt2⟩)
              refine hK _ _ ⟨fun h => absurd h (by omega), ?_⟩
              clear hpt hlt2 hru HA a1 hK K
              refine till_one (i := 8) (by kernel_rfl) rfl rfl (fun K hK => ?_)
              go_simp
              refine hK _ _ ⟨fun h => absurd h (by omega), till_done (by kernel_rfl) ?_ _⟩
              clear hK K
              go_wp2_with fail
              go_meet
              exact HT.out
            · have hk1' : (ok == 1) = false := by simpa using hk1
              have hk2' : (ok == 2) = false := by simpa using hk2
              have hk3' : (ok == 3) = false := by simpa using hk3
              have hk4' : (ok == 4) = false := by simpa using hk4
              have hk5' : (ok == 5) = false := by simpa using hk5
              obtain ⟨thr, hth, hrd⟩ := HS.out.2.2.2.2.1.thr
              have hre := play_release thr HS.out.1 HS.out.2.2.2.2.1.ds hth (by have := HCN.out; omega)
              have HD := Lib.hid hrd
              obtain ⟨nd, hnd⟩ : ∃ n, (dueOf thr m).length = n := ⟨_, rfl⟩
              have HND := Lib.hid hnd
              rw [hnd] at hre
              clear hth hrd hnd hk1 hk2 hk3 hk4 hk5
              go_wp2_with fail
              refine hre.mono ?_
              rintro e wa ⟨rfl, hpa, hla⟩
              have hrr := play_rrelease hpa (by have := HCN.out; omega) HS.out.2.2.2.2.1.lsort
              have hnd2 : (W.filter (rdue P)).length = nd := by
                have hq := (List.mergeSort_perm ((W.filter (rdue P)).map (·.2) ++ L) leInt)
                have h := (HS.out.2.2.2.2.1.release HD.out hq (srt_le _)).1
                rw [← h]
                exact HND.out
              rw [hnd2] at hrr
              have HA := Lib.hid hla
              clear hpa hla hre hnd2
              go_wp2_with fail
              refine hrr.mono ?_
              rintro e wt ⟨rfl, Lq, hpt, hlt2, hpm, hso⟩
              have HT := Lib.hid (show Turned w.heap.size w1 gm2 ob pf pr pb i KL wt from ⟨_, _, _, _, _, _, _, hpt, (HS.out.2.2.2.2.1.release HD.out hpm hso).2, HA.out.trans hlt2⟩)
              clear hpt hlt2 hrr HA hpm hso
              go_wp2_with fail
              go_meet
              exact HT.out
      · obtain rfl : i = N := by omega
        have HE := Lib.hid (And.intro hpl (And.intro hKL (And.intro hKx hbw)))
        clear hpl hag hKL hKx hbw hig hlt
        go_wp2_with fail
        refine (alive6_any _).mono ?_
        rintro e wz ⟨rfl, hbz⟩
        have hap := play_apart (HE.out.1.below hbz).1 HE.out.2.1 HE.out.2.2.1
        have HZ := Lib.hid (HE.out.2.2.2.trans (hbz.mono HE.out.2.2.2.size))
        clear hbz HE
        go_wp2_with fail
        refine hap.mono ?_
        rintro e wy ⟨rfl, hby⟩
        have HY := Lib.hid (HZ.out.trans hby)
        clear hap hby HZ
        go_wp2_with fail
        go_ret
        exact ⟨rfl, HY.out⟩
  case first =>
    have h51 := H1.out.2.1.size
    have h52 := H2.out.2.2.size
    have h53 := H3.out.2.2.2.size
    have h5w := hbw5.size
    have hst1 : Start w w1.heap.size w3.heap.size w5 := by
      obtain ⟨hf, hF, hb2⟩ := H2.out
      obtain ⟨hmp, hms, hoS, hb3⟩ := H3.out
      have hr : RFr (w3.alloc (.cells #[.slice AS ms.length cS, .slice none 0 0, .slice none 0 0] 31)) w3.heap.size (.slice AS ms.length cS) nilV nilV ms [] [] :=
        ⟨Has.made _ _ _, RdI.row (World.ownsRow.alloc hoS _), World.ownsRow_nil _ _ _ _, RdI.nil _, fun g hg => by
          rcases mem_rfr.1 hg with h | h | h
          · have := (hoS.lt g h).2; omega
          · simp [Value.ownBlock] at h
          · simp [Value.ownBlock] at h⟩
      refine ⟨l0, ms, ⟨sorted_is H3.out.1 H3.out.2.1, (by simp), List.Perm.refl _, by unfold Distinct; simp, by simp, by rw [R.out.2.2.2.1]; simp; omega, by simp, by simp⟩, hbw5, play_start (B := w2.heap.size) ((hf.below hb3).below hb35) (fun x hx => ⟨?_, hf.lt x hx⟩) (hr.below hb5) (fun x hx => ?_) hbw5.size⟩
      · have := hF x hx; have := H1.out.2.1.size; omega
      · have h1 := H1.out.2.1.size
        have h2 := hb2.size
        have h3 := hb3.size
        rcases List.mem_cons.1 hx with rfl | hx
        · omega
        · rcases mem_rfr.1 hx with h | h | h
          · have := (hoS.lt x h).1; omega
          · simp [Value.ownBlock] at h
          · simp [Value.ownBlock] at h
    have hst2 : Start w w5.heap.size (w5.heap.size + 1) ((w5.alloc (.cells #[.slice none 0 0, .int .i64 0, .slice none 0 0, .slice none 0 0] 47)).alloc (.cells #[.slice none 0 0, .slice none 0 0, .slice none 0 0] 31)) := by
      have hsz : (w5.alloc (.cells #[.slice none 0 0, .int .i64 0, .slice none 0 0, .slice none 0 0] 47)).heap.size = w5.heap.size + 1 := by simp
      have hsz2 : ((w5.alloc (.cells #[.slice none 0 0, .int .i64 0, .slice none 0 0, .slice none 0 0] 47)).alloc (.cells #[.slice none 0 0, .slice none 0 0, .slice none 0 0] 31)).heap.size = w5.heap.size + 2 := by simp
      have hf : FreeIs w5.heap.size (w5.alloc (.cells #[.slice none 0 0, .int .i64 0, .slice none 0 0, .slice none 0 0] 47)) [w5.heap.size] [] 0 [] [] :=
        ⟨_, _, _, Has.made w5 _ _, NRow.nil _ _, DRow.nil _ _, NRow.nil _ _, by simp [Value.ownBlock], by simp [Value.ownBlock], rfl⟩
      have hr : RFr ((w5.alloc (.cells #[.slice none 0 0, .int .i64 0, .slice none 0 0, .slice none 0 0] 47)).alloc (.cells #[.slice none 0 0, .slice none 0 0, .slice none 0 0] 31)) (w5.heap.size + 1) nilV nilV nilV [] [] [] := by
        have := Has.made (w5.alloc (.cells #[.slice none 0 0, .int .i64 0, .slice none 0 0, .slice none 0 0] 47)) 31 #[.slice none 0 0, .slice none 0 0, .slice none 0 0]
        rw [hsz] at this
        exact ⟨this, RdI.nil _, World.ownsRow_nil _ _ _ _, RdI.nil _, fun g hg => by rcases mem_rfr.1 hg with h | h | h <;> simp [Value.ownBlock] at h⟩
      have hb1 : Below (w5.alloc (.cells #[.slice none 0 0, .int .i64 0, .slice none 0 0, .slice none 0 0] 47)).heap.size (w5.alloc (.cells #[.slice none 0 0, .int .i64 0, .slice none 0 0, .slice none 0 0] 47)) ((w5.alloc (.cells #[.slice none 0 0, .int .i64 0, .slice none 0 0, .slice none 0 0] 47)).alloc (.cells #[.slice none 0 0, .slice none 0 0, .slice none 0 0] 31)) := (Below.refl _ _).alloc (Nat.le_refl _) _
      exact ⟨[], [], ⟨(by simp), (by simp), List.Perm.refl _, by unfold Distinct; simp, by simp, by simp, by simp, by simp⟩, (hbw5.alloc hbw5.size _).alloc (by have := hbw5.size; simp; omega) _, play_start (base := w.heap.size) (B := w5.heap.size + 1) (hf.below hb1) (fun x hx => by simp at hx; omega) hr (fun x hx => by
        rcases List.mem_cons.1 hx with rfl | hx
        · omega
        · rcases mem_rfr.1 hx with h | h | h <;> simp [Value.ownBlock] at h) (by rw [hsz2]; omega)⟩
    have HS1 := Lib.hid hst1
    have HS2 := Lib.hid hst2
    clear hst1 hst2 h51 h52 h53 h5w hb35 hbw5 hb5
    cases z
    · go_wp2_with fail
      go_meet
      exact ⟨_, _, rfl, rfl, HS1.out⟩
    · go_wp2_with fail
      go_meet
      exact ⟨_, _, rfl, rfl, HS2.out⟩

theorem walk (w : World) (v0 : Value) (l0 : List Int) (r0 : Reads1 w w.heap.size v0 (l0.map (.int .i64))) (_i0 : ∀ x ∈ l0, IsInt x) (m0 : l0.length ≤ 9223372036854775807 ∧ ∀ n c, v0 = .slice none n c → n = 0 ∧ c = 0) (z : Bool) (v2 : Value) (os : List OpL) (r2 : ReadsOps w v2 os) (i2 : ∀ o ∈ os, o.ok w) (m2 : os.length ≤ 9223372036854775807) :
    Calls Tryz.prog 3 #[v0, .bool z, v2] w fun e w' => e = .returned (.bool true) ∧ Below w.heap.size w w' := by
  by_cases h : 100 < l0.length ∨ 150 < os.length
  · exact walk_out w v0 l0 r0 z v2 os r2 m0.1 m2 h
  · exact walk_whole w v0 l0 r0 m0.2 z v2 os r2 i2 (by omega) (by omega)

set_option maxRecDepth 100000 in
theorem lifted (os : Os) (started : os.Started) (H : Type) (enc : TypeId × Value → H) :
    ReturnsInHanded {} Tryz.checked os 3 .any (Rows.freePlaysSpec.pre6 enc Tryz.prog Tryz.f3 Rows.freePlaysRow.domain false) (Rows.freePlaysSpec.post enc Tryz.prog Tryz.f3 false true false false) := by
  refine returnsInHanded_of_change (C := Tryz.checked) own started (by kernel_rfl) Tryz.func3
    (ChangeSpec.witness6 (enc := enc) (C := Tryz.checked) false ⟨#[], #[.slice none 0 0, .bool false, .slice none 0 0], []⟩ 8 (by kernel_rfl) (by kernel_rfl) (by kernel_rfl) (by kernel_rfl)) ?_
  intro W base args ds gs before hval0 hW hcnd _
  have hval : ∀ (j : Nat) t v, Tryz.f3.params[j]? = some t → args[j]? = some v → Value.okWide Tryz.prog W .any base t v := hval0
  have hW' := hW
  obtain ⟨p, q, hA0, hV, rfl, hfz, hnd⟩ := hW
  have hA : DataW.TrodAll enc Tryz.prog W 0 (fun _ => true) true Tryz.f3.params.toList args.toList ds p := hA0
  rw [Tryz.params3] at hA hval
  obtain ⟨v0, vs0, d0, ds0, p0, q0, hargs, rfl, rfl, h0, r00⟩ := trodAll_cons hA
  obtain ⟨v1, vs1, d1, ds1, p1, q1, rfl, rfl, rfl, h1, r01⟩ := trodAll_cons r00
  obtain ⟨v2, vs2, d2, ds2, p2, q2, rfl, rfl, rfl, h2, r02⟩ := trodAll_cons r01
  obtain ⟨rfl, rfl, rfl⟩ := trodAll_nil r02
  obtain rfl : args = #[v0, v1, v2] := by cases args; simp_all
  obtain ⟨rfl, rfl⟩ := trodVars_none hV
  obtain ⟨l0, r0, i0, m0⟩ := reads_intsF (hval 0 22 v0 rfl rfl) h0
  obtain ⟨b1, rfl, rfl, rfl⟩ := open_bool Tryz.underlying4 (hval 1 4 v1 rfl rfl) h1
  obtain ⟨os2, r2, i2, m2⟩ := reads_fops (hval 2 23 v2 rfl rfl) h2
  clear hA0 hval0
  refine (walk W v0 l0 r0 i0 m0 b1 v2 os2 r2 i2 m2).mono fun e W' ⟨he, hb⟩ => ?_
  subst he
  exact ⟨_, rfl, law_post hW' rfl rfl (by kernel_rfl) (by kernel_rfl) hb⟩

theorem said : Rows.FreePlaysSaid :=
  OpenClaim.holds_of_wide 3 Tryz.f3 rfl rfl rfl rfl rfl rfl rfl ⟨rfl, rfl, rfl, rfl, rfl⟩ rfl rfl rfl rfl rfl (by kernel_rfl) Tryz.func3 (by kernel_rfl)
    (of_decide_eq_true (by kernel_rfl)) (by unfold Func.isWrapper; first | (rw [if_pos (by decide +kernel)]; kernel_rfl) | (rw [if_neg (by decide +kernel)]; exact ⟨rfl, rfl⟩))
    (fun os started H enc _ => lifted os started H enc)

end Go.Proofs.YtjimjemogbphaaaGreat.freePlays
