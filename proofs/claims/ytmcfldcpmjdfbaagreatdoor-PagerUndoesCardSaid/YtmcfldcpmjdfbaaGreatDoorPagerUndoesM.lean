/-
  PagerUndoes: what is undone leaves all as it was: the free pages, the number of pages, and what can be read. For every list of numbers and of things that are done. Conditions: the variables that the row lists are laid as its card says.
-/
import Derived.Test.YtmcfldcpmjdfbaaGreatDoorMg47
import Derived.Test.YtmcfldcpmjdfbaaGreatDoorMg37
import Derived.Test.YtmcfldcpmjdfbaaGreatDoorMg48
namespace Go.Proofs.YtmcfldcpmjdfbaaGreatDoor.pagerUndoes
open Go.RowKit Go.Sort Go.Lib Go.ChangeShapes Go.WideShapes Go.ChangeAt

theorem Reads1.form {w : World} {B : Nat} {v : Value} {l : List Int} (h : Reads1 w B v (l.map (.int .i64))) : ∃ A c, v = .slice A l.length c := by
  obtain ⟨A, c, rfl, h⟩ := h
  exact ⟨A, c, by simp⟩
theorem reads_at {w w' : World} {B : Nat} {v : Value} {l : List Int} (h : Reads1 w B v (l.map (.int .i64))) (hb : Below B w w') (j : Nat) (hj : j < l.length) : ∃ b off c, v = .slice (some ⟨b, off, none⟩) l.length c ∧ w'.cell? ⟨b, off + j, none⟩ = some (.int .i64 l[j]) := by
  obtain ⟨A, c, rfl, h⟩ := h
  obtain ⟨b, off, rfl, hlt, hc⟩ := h (by simp; omega)
  exact ⟨b, off, c, by simp, (hb.cell (p := ⟨b, off + j, none⟩) hlt).trans (hc j _ (by rw [List.getElem?_map, List.getElem?_eq_getElem hj]; rfl))⟩
theorem readsO_reads1 {w : World} {F : List Nat} {v : Value} {xs : List Value} (h : ReadsO F w v xs) : Reads1 w w.heap.size v xs := by
  obtain ⟨A, c, rfl, h⟩ := h
  refine ⟨A, c, rfl, fun h0 => ?_⟩
  obtain ⟨b, off, rfl, hlt, _, hc⟩ := h h0
  exact ⟨b, off, rfl, hlt, hc⟩

set_option maxRecDepth 1000000 in
set_option maxHeartbeats 4000000 in
theorem walk_heavy (w : World) (v0 : Value) (l0 : List Int) (r0 : Reads1 w w.heap.size v0 (l0.map (.int .i64))) (_m0 : l0.length ≤ 9223372036854775807) (v1 : Value) (b : Bool)
    (hlg : Calls Tryz.prog 20 #[v1] w fun e w' => e = .returned (.bool b) ∧ w = w') (h : b = false ∨ 20 < l0.length) :
    Calls Tryz.prog 5 #[v0, v1] w fun e w' => e = .returned (.bool true) ∧ Below w.heap.size w w' := by
  obtain ⟨A0, c0, rfl⟩ := Reads1.form r0
  clear r0
  generalize l0.length = n0 at *
  have hal := alive7_any w
  rcases h with rfl | h
  · go_enter Tryz.func5, Tryz.ntmps5
    go_wp2_with fail
    refine hlg.mono ?_
    rintro e w' ⟨rfl, rfl⟩
    go_wp2_with fail
    refine hal.mono ?_
    rintro e w1 ⟨rfl, hb⟩
    go_wp2_with fail
    go_ret
    exact ⟨rfl, hb⟩
  · have hb1 : decide ((20 : Int) < (n0 : Int)) = true := by simp; omega
    clear h
    cases b
    · go_enter Tryz.func5, Tryz.ntmps5
      go_wp2_with fail
      refine hlg.mono ?_
      rintro e w' ⟨rfl, rfl⟩
      go_wp2_with fail
      refine hal.mono ?_
      rintro e w1 ⟨rfl, hb⟩
      go_wp2_with fail
      go_ret
      exact ⟨rfl, hb⟩
    · go_enter Tryz.func5, Tryz.ntmps5
      go_wp2_with fail
      refine hlg.mono ?_
      rintro e w' ⟨rfl, rfl⟩
      go_wp2_with fail
      refine hal.mono ?_
      rintro e w1 ⟨rfl, hb⟩
      go_wp2_with fail
      go_ret
      exact ⟨rfl, hb⟩

set_option maxRecDepth 1000000 in
set_option maxHeartbeats 16000000 in
theorem walk_whole (w : World) (v0 : Value) (l0 : List Int) (r0 : Reads1 w w.heap.size v0 (l0.map (.int .i64))) (i0 : ∀ x ∈ l0, IsInt x) (h20 : l0.length ≤ 20) (v1 : Value) (os : List POp) (r1 : ReadsPOps w w.heap.size v1 os) (hok : ∀ o ∈ os, o.ok)
    (h150 : os.length ≤ 150) (h300 : ∀ o ∈ os, o.t.size ≤ 300) (hlg : Calls Tryz.prog 20 #[v1] w fun e w' => e = .returned (.bool true) ∧ w = w') :
    Calls Tryz.prog 5 #[v0, v1] w fun e w' => e = .returned (.bool true) ∧ Below w.heap.size w w' := by
  have R0 := Lib.hid r0
  have R1 := Lib.hid (And.intro r1 (And.intro hok h300))
  obtain ⟨A0, c0, rfl⟩ := Reads1.form r0
  obtain ⟨A1, c1, rfl⟩ := r1.form
  obtain ⟨n0, hn0⟩ : ∃ n, l0.length = n := ⟨_, rfl⟩
  obtain ⟨n1, hn1⟩ : ∃ n, os.length = n := ⟨_, rfl⟩
  have HI := Lib.hid i0
  have HN := Lib.hid (And.intro hn0 hn1)
  rw [hn0] at h20
  rw [hn1] at h150 hlg
  rw [hn0, hn1]
  clear r0 r1 hok h300 i0 hn0 hn1
  have hd20 : decide ((20 : Int) < (n0 : Int)) = false := by simp; omega
  go_enter Tryz.func5, Tryz.ntmps5
  go_wp2_with fail
  refine hlg.mono ?_
  rintro e w' ⟨rfl, rfl⟩
  clear hlg
  go_wp2_with fail
  go_loopg [5, 6] n0 (fun g fv iv wr => ∃ (j : Nat), iv = .int .i64 j ∧ j + g = n0 ∧ wr.ownsRow w.heap.size 3 1 fv j ((l0.take j).map (.int .i64)) ∧ Below w.heap.size w wr ∧ (∀ x ∈ l0.take j, 2 ≤ x ∧ x < 12) ∧ (l0.take j).Nodup)
  case atStart => exact ⟨0, rfl, by omega, World.ownsRow_nil _ _ _ _, Below.refl _ _, by simp, by simp⟩
  case round =>
    obtain ⟨j, rfl, hjg, hown, hbw, hbd, hnd⟩ := hrel
    obtain ⟨Af, cf, hform⟩ := row_form hown
    subst hform
    by_cases hlt : j < n0
    · have hd : decide ((j : Int) < (n0 : Int)) = true := by simp; omega
      have hjl : j < l0.length := by rw [HN.out.1]; exact hlt
      obtain ⟨b, off, c, hv, hck⟩ := reads_at R0.out hbw j hjl
      simp only [Value.slice.injEq] at hv
      obtain ⟨rfl, _, rfl⟩ := hv
      have htk := take_snoc1 l0 j hjl
      have hlen : (l0.take j).length = j := by simp; omega
      have hj0 : (0 : Int) ≤ (j : Int) := by omega
      have hj1 : (j : Int) < (n0 : Int) := by omega
      generalize l0[j] = x at *
      have hro : ReadsO [] wr (.slice Af j cf) ((l0.take j).map (.int .i64)) := row_readsO hown (by simp)
      have hin := in_any (w := wr) x hro (by omega)
      have HR := Lib.hid (And.intro hown (And.intro hbw (And.intro hbd (And.intro hnd (And.intro htk hlen)))))
      have hal := alive7_any wr
      clear hown hbd hnd htk hlen hro hjl
      by_cases a1 : x < 2
      · have e1 : decide (x < 2) = true := by simpa using a1
        clear hin
        go_wp2_with fail
        refine hal.mono ?_
        rintro e w2 ⟨rfl, hb2⟩
        go_wp2_with fail
        go_ret
        exact ⟨rfl, HR.out.2.1.trans (hb2.mono HR.out.2.1.size)⟩
      · have e1 : decide (x < 2) = false := by simpa using a1
        by_cases a2 : 12 ≤ x
        · have e2 : decide (12 ≤ x) = true := by simpa using a2
          clear hin
          go_wp2_with fail
          refine hal.mono ?_
          rintro e w2 ⟨rfl, hb2⟩
          go_wp2_with fail
          go_ret
          exact ⟨rfl, HR.out.2.1.trans (hb2.mono HR.out.2.1.size)⟩
        · have e2 : decide (12 ≤ x) = false := by simpa using a2
          by_cases a3 : x ∈ l0.take j
          · rw [decide_eq_true a3] at hin
            go_wp2_with fail
            refine hin.mono ?_
            rintro e w' ⟨rfl, rfl⟩
            go_wp2_with fail
            refine hal.mono ?_
            rintro e w2 ⟨rfl, hb2⟩
            go_wp2_with fail
            go_ret
            exact ⟨rfl, HR.out.2.1.trans (hb2.mono HR.out.2.1.size)⟩
          · rw [decide_eq_false a3] at hin
            obtain ⟨i0, hi0, hzz0, hzz1, hzz2⟩ := info_parts Tryz.infoInt
            have hra := World.ownsRow.alloc (row_base0 HR.out.1) (.cells #[.int .i64 x] 3)
            have HX := Lib.hid (And.intro a1 (And.intro a2 a3))
            clear a1 a2 a3 hal
            go_wp2_with fail
            refine hin.mono ?_
            rintro e w' ⟨rfl, rfl⟩
            clear hin
            go_wp2_with (at_builtin; refine wpList_append_keeps rfl _ _ 27 3 i0 (.int .i64 0) 1 8 Tryz.underlying27 hi0 hzz0 hzz1 hzz2 rfl (by decide) rfl _ (.slice Af j cf) j _ rfl hra ⟨wr.heap.size, 0, none⟩ 1 1 rfl [.int .i64 x] rfl (cell_one_new _ _ _) (by intro u hu; simp at hu; subst hu; rfl) (by omega) (by unfold maxLen; omega) (by omega) ?_; intro v' w' hown' hgn)
            go_roundg (n0 - (j + 1))
            case measure => omega
            case rel =>
              obtain ⟨hown, hbw, hbd, hnd, htk, hlen⟩ := HR.out
              obtain ⟨b1, b2, b3⟩ := HX.out
              have hge := fun g hg => (hown.lt g hg).1
              have hb6 := alloc_below (w := wr) (.cells #[.int .i64 x] 3)
              obtain ⟨hb7, hg7⟩ := hgn.below (base := w.heap.size) (Nat.le_trans hbw.size hb6.size) hge
              refine ⟨j + 1, by go_num, by omega, ?_, (hbw.trans (hb6.mono hbw.size)).trans hb7, ?_, ?_⟩
              · rw [htk]
                simpa using row_raise hown' hg7
              · rw [htk]
                intro y hy
                rcases List.mem_append.1 hy with h | h
                · exact hbd y h
                · simp at h
                  omega
              · rw [htk]
                exact List.nodup_append.2 ⟨hnd, by simp, fun a ha c hc e => by simp at hc; subst hc; subst e; exact b3 ha⟩
    · obtain rfl : j = n0 := by omega
      have hfull : l0.take j = l0 := List.take_of_length_le (by rw [HN.out.1]; exact Nat.le_refl _)
      rw [hfull] at hown hbd hnd
      have hd : decide ((j : Int) < (j : Int)) = false := by simp
      have hro : ReadsO [] wr (.slice Af j cf) (l0.map (.int .i64)) := row_readsO hown (by simp)
      have hbs := base7_ok (w := wr) 40 12 (by omega) (by omega) (by omega) (readsO_reads1 hro) (by rw [HN.out.1]; omega)
      have HW := Lib.hid (And.intro hbw (And.intro hbd hnd))
      clear hown hbw hbd hnd hro hfull hlt hjg
      go_wp2_with fail
      refine hbs.mono ?_
      rintro e w1 ⟨pd, q, pf, qf, FD, FF, rfl, hdv, hf, hge, hfg, hap, hb⟩
      have hnw := gnew_ok 12 1 hdv hf hap (by omega) (by rw [longer_new_len]; omega) (by omega) (by simpa [whats] using HW.out.2.1) (by rw [HN.out.1]; simp; omega)
      have hs0 := HW.out.1.size
      have H1 := Lib.hid (And.intro (show ∀ x ∈ FD, w.heap.size ≤ x from fun x hx => Nat.le_trans hs0 (hge x hx)) (And.intro (show ∀ x ∈ FF, w.heap.size ≤ x from fun x hx => Nat.le_trans hs0 (hfg x hx)) (HW.out.1.trans (hb.mono hs0))))
      clear hbs hdv hf hge hfg hap hb hs0
      go_wp2_with fail
      refine hnw.mono ?_
      rintro e w2 ⟨p, b, F2, rfl, hp2, hF2, hb2⟩
      have hge2 : ∀ x ∈ F2, w.heap.size ≤ x := fun x hx => (hF2 x hx).elim (H1.out.1 x) (fun h => h.elim (H1.out.2.1 x) (fun h => Nat.le_trans H1.out.2.2.size h))
      have hbw2 : Below w.heap.size w w2 := H1.out.2.2.trans (hb2.mono H1.out.2.2.size)
      obtain ⟨F3, hfr3, -, -⟩ := hp2.freeL
      have hall := fall_any hfr3 (by show l0.length + 0 ≤ 1000000; rw [HN.out.1]; omega)
      have HP2 := Lib.hid (And.intro hp2 (And.intro hge2 hbw2))
      clear hnw hp2 hF2 hb2 hge2 hbw2 hfr3 H1
      go_wp2_with fail
      refine hall.mono ?_
      rintro e w3 ⟨vw, rfl, hrw, hb3⟩
      have hlw : ((l0 ++ whats []).mergeSort leInt).length = j := by rw [List.length_mergeSort]; simp [whats]; exact HN.out.1
      have hlw0 : (newPg (longer (newS 40) 12) l0 0 [] [] 12 1).l.length + (newPg (longer (newS 40) 12) l0 0 [] [] 12 1).m.length = j := by show l0.length + 0 = j; rw [HN.out.1]; rfl
      rw [hlw0] at hrw
      obtain ⟨Aw, cw, hform⟩ := row_form hrw
      subst hform
      obtain ⟨hp2, hge2, hbw2⟩ := HP2.out
      have hro3 : ReadsO F2 w3 (.slice Aw j cw) (((l0 ++ whats []).mergeSort leInt).map (.int .i64)) := row_readsO hrw (fun g hg hF => by have h1 := (hrw.lt g hg).1; have h2 := hp2.lt g hF; omega)
      have HS := Lib.hid (And.intro (hp2.below hb3) (And.intro hge2 (And.intro (hbw2.trans (hb3.mono hbw2.size)) (And.intro (US.new HW.out.2.1 HW.out.2.2 (by rw [HN.out.1]; omega)) hro3))))
      clear hall hrw hb3 hlw0 hp2 hge2 hbw2 hro3 HP2 F3
      go_wp2_with fail
      go_loopg [15] n1 (fun g iv wr => ∃ (i : Nat) (s : PgS) (F : List Nat), iv = .int .i64 i ∧ i + g = n1 ∧ PgIs p pd pf b s F wr ∧ (∀ x ∈ F, w.heap.size ≤ x) ∧ Below w.heap.size w wr ∧ US l0 s i ∧ ReadsO F wr (.slice Aw j cw) (((l0 ++ whats []).mergeSort leInt).map (.int .i64)))
      case atStart =>
        obtain ⟨h1, h2, h3, h4, h5⟩ := HS.out
        exact ⟨0, _, F2, rfl, by omega, h1, h2, h3, h4, h5⟩
      case round =>
        clear HS hd
        obtain ⟨i, s, F, rfl, hig, hp, hge, hbw, hus, hro⟩ := hrel
        have hib : i ≤ 150 := by omega
        by_cases hlt : i < n1
        · have hd : decide ((i : Int) < (n1 : Int)) = true := by simp; omega
          have hil : i < os.length := by rw [HN.out.2]; exact hlt
          obtain ⟨b1, off, c', hv, -, k0, k1, k2, k3, k4⟩ := (R1.out.1.below hbw).at i hil
          simp only [Value.slice.injEq] at hv
          obtain ⟨rfl, _, rfl⟩ := hv
          have hoi := R1.out.2.1 _ (List.getElem_mem hil)
          have hti := R1.out.2.2 _ (List.getElem_mem hil)
          obtain ⟨o1, o2, o3, o4, o5⟩ := hoi
          generalize os[i].k = ok at *
          generalize os[i].n = on at *
          generalize os[i].pk = opk at *
          generalize os[i].pn = opn at *
          generalize os[i].t = ot at *
          have hj0 : (0 : Int) ≤ (i : Int) := by omega
          have hj1 : (i : Int) < (n1 : Int) := by omega
          have HR := Lib.hid (And.intro hge (And.intro hbw (And.intro hus hro)))
          by_cases a1 : ok = 1
          · subst a1
            have hmk := gmake_any opk opn ot hus.ok o3 o4 (by omega) hp
            clear hge hbw hus hro hp hil
            go_wp2_with fail
            refine hmk.mono ?_
            rintro e w4 ⟨id, r, s', rfl, hmt, F', hp', hg'⟩
            have HM := Lib.hid (And.intro hmt (And.intro hp' hg'))
            clear hmk hmt hp' hg' k0 k1 k2 k3 k4
            go_wp2_with fail
            go_roundg (n1 - (i + 1))
            case measure => omega
            case rel =>
              obtain ⟨hge, hbw, hus, hro⟩ := HR.out
              obtain ⟨hmt, hp', hg'⟩ := HM.out
              exact ⟨i + 1, s', F', by go_num, by omega, hp', fun x hx => (hg'.2 x hx).elim (hge x) (fun h => Nat.le_trans hbw.size h), hbw.trans (hg'.1.below hbw.size hge), hus.make (fun x hx => (HW.out.2.1 x hx).2) (by omega) hmt, hro.goes hg'⟩
          · by_cases a3 : ok = 3
            · subst a3
              have hdp := gdrop_any on o2 hus.ok hp
              clear hge hbw hus hro hp hil a1
              go_wp2_with fail
              refine hdp.mono ?_
              rintro e w4 ⟨g, s', rfl, hmt, F', hp', hg'⟩
              have HM := Lib.hid (And.intro hmt (And.intro hp' hg'))
              clear hdp hmt hp' hg' k0 k1 k2 k3 k4
              go_wp2_with fail
              go_roundg (n1 - (i + 1))
              case measure => omega
              case rel =>
                obtain ⟨hge, hbw, hus, hro⟩ := HR.out
                obtain ⟨hmt, hp', hg'⟩ := HM.out
                exact ⟨i + 1, s', F', by go_num, by omega, hp', fun x hx => (hg'.2 x hx).elim (hge x) (fun h => Nat.le_trans hbw.size h), hbw.trans (hg'.1.below hbw.size hge), hus.drop (by omega) hmt, hro.goes hg'⟩
            · have e1 : (ok == 1) = false := by simpa using a1
              have e3 : (ok == 3) = false := by simpa using a3
              have HP := Lib.hid hp
              clear hge hbw hus hro hp hil a1 a3
              go_wp2_with fail
              go_roundg (n1 - (i + 1))
              case measure => omega
              case rel =>
                obtain ⟨hge, hbw, hus, hro⟩ := HR.out
                exact ⟨i + 1, s, F, by go_num, by omega, HP.out, hge, hbw, ⟨hus.ok, by have := hus.few; omega, hus.wait, hus.there, hus.pages, hus.line, hus.nodup, hus.far, hus.apart, hus.all⟩, hro⟩
        · obtain rfl : i = n1 := by omega
          have hd : decide ((i : Int) < (i : Int)) = false := by simp
          have hfw := hus.few
          have hun := gundo_any (by omega) (by omega) hp
          have hth := hus.there
          have HR := Lib.hid (And.intro hge (And.intro hbw (And.intro hus hro)))
          clear hge hbw hus hro hp hlt hig hfw
          go_wp2_with fail
          refine hun.mono ?_
          rintro e w4 ⟨rfl, F4, L, l', hfat, hpm, hp4, hg4⟩
          obtain ⟨hge, hbw, hus, hro⟩ := HR.out
          have hperm := hus.undone HW.out.2.2 hfat hpm
          have hge4 : ∀ x ∈ F4, w.heap.size ≤ x := fun x hx => (hg4.2 x hx).elim (hge x) (fun h => Nat.le_trans hbw.size h)
          have hbw4 : Below w.heap.size w w4 := hbw.trans (hg4.1.below hbw.size hge)
          have H4 := Lib.hid (And.intro hp4 (And.intro hge4 (And.intro hbw4 (And.intro (hro.goes hg4) (And.intro hperm (And.intro hus.wait hus.line))))))
          have hal := alive7_any w4
          clear hun hfat hpm hp4 hg4 hge hbw hus hro hperm hge4 hbw4 HR
          go_wp2_with fail
          refine hal.mono ?_
          rintro e w5 ⟨rfl, hb5⟩
          obtain ⟨hp4, hge4, hbw4, hro4, hperm, hwait, hline⟩ := H4.out
          have hp5 := hp4.below hb5
          have hpg := gpages_any hp5
          rw [show ({ s with l := l', there := s.there, pages := s.there, spare := [], n := 0, H := fun _ => noChg } : PgS).pages = 12 from hth] at hpg
          obtain ⟨FF5, hf5, hs5, -⟩ := hp5.freeL
          obtain ⟨FD5, hdv5, hs6, -⟩ := hp5.devL
          have hlen5 : l'.length = j := by rw [hperm.length_eq, HN.out.1]
          have hall := fall_any hf5 (by show l'.length + s.m.length ≤ 1000000; rw [hwait, hlen5]; simp; omega)
          rw [show ({ s with l := l', there := s.there, pages := s.there, spare := [], n := 0, H := fun _ => noChg } : PgS).l = l' from rfl, show ({ s with l := l', there := s.there, pages := s.there, spare := [], n := 0, H := fun _ => noChg } : PgS).m = [] from hwait] at hall
          have hsrt : (l' ++ whats []).mergeSort leInt = (l0 ++ whats []).mergeSort leInt := sort_perm (hperm.append (List.Perm.refl _))
          rw [hsrt, show l'.length + ([] : List Due).length = j by rw [hlen5]; rfl] at hall
          have hro5 : ReadsO F4 w5 (.slice Aw j cw) (((l0 ++ whats []).mergeSort leInt).map (.int .i64)) := hro4.goes (goes_below hb5)
          have H5 := Lib.hid (And.intro hp5 (And.intro hro5 (hbw4.trans (hb5.mono hbw4.size))))
          clear hal hb5 hp4 hge4 hbw4 hro4 hperm hp5 hf5 hdv5 hs5 hs6 hlen5 hsrt hro5
          go_wp2_with fail
          refine hpg.mono ?_
          rintro e w' ⟨rfl, rfl⟩
          clear hpg
          go_wp2_with fail
          refine hall.mono ?_
          rintro e w6 ⟨v6, rfl, hr6, hb6⟩
          obtain ⟨hp5, hro5, hbw5⟩ := H5.out
          have hlw2 : ((l0 ++ whats []).mergeSort leInt).length = j := hlw
          have hsame := sameInts_any v6 (.slice Aw j cw) ((l0 ++ whats []).mergeSort leInt) w6 (readsO_reads1 (F := []) (row_readsO hr6 (by simp))) (readsO_reads1 (hro5.goes (goes_below hb6))) (by rw [hlw2]; omega)
          have H6 := Lib.hid (And.intro (hp5.below hb6) (hbw5.trans (hb6.mono hbw5.size)))
          clear hall hr6 hb6 hp5 hro5 hbw5 H5
          go_wp2_with fail
          refine hsame.mono ?_
          rintro e w7 ⟨rfl, hb7⟩
          have hp7 := H6.out.1.below hb7
          have hbw7 : Below w.heap.size w w7 := H6.out.2.trans (hb7.mono H6.out.2.size)
          have hmd := gmade_any (by show 0 ≤ 1000000; omega) hp7
          have H7 := Lib.hid (And.intro hp7 hbw7)
          clear hsame hb7 hp7 hbw7 H6
          go_wp2_with fail
          refine hmd.mono ?_
          rintro e w8 ⟨v8, L8, rfl, hr8, -, hL8, hb8⟩
          obtain rfl : L8 = [] := List.eq_nil_of_length_eq_zero (by have : L8.length ≤ 0 := hL8; omega)
          obtain ⟨A8, c8, hform8⟩ := row_form hr8
          subst hform8
          have hp8 := H7.out.1.below hb8
          have hbw8 : Below w.heap.size w w8 := H7.out.2.trans (hb8.mono H7.out.2.size)
          have hdr := gdropped_any (by show 0 ≤ 1000000; omega) hp8
          have H8 := Lib.hid (And.intro hp8 hbw8)
          clear hmd hr8 hL8 hb8 hp8 hbw8 H7
          go_wp2_with fail
          refine hdr.mono ?_
          rintro e w9 ⟨v9, L9, rfl, hr9, -, hL9, hb9⟩
          obtain rfl : L9 = [] := List.eq_nil_of_length_eq_zero (by have : L9.length ≤ 0 := hL9; omega)
          obtain ⟨A9, c9, hform9⟩ := row_form hr9
          subst hform9
          have hp9 := H8.out.1.below hb9
          have hbw9 : Below w.heap.size w w9 := H8.out.2.trans (hb9.mono H8.out.2.size)
          have hsp := gspare_any hp9
          have H9 := Lib.hid (And.intro hp9 hbw9)
          clear hdr hr9 hL9 hb9 hp9 hbw9 H8
          go_wp2_with fail
          refine hsp.mono ?_
          rintro e w10 ⟨v10, rfl, hr10, hb10⟩
          obtain ⟨A10, c10, hform10⟩ := row_form hr10
          rw [show ({ s with l := l', there := s.there, pages := s.there, spare := [], n := 0, H := fun _ => noChg } : PgS).spare.length = 0 from rfl] at hform10
          subst hform10
          have hp10 := H9.out.1.below hb10
          have hbw10 : Below w.heap.size w w10 := H9.out.2.trans (hb10.mono H9.out.2.size)
          obtain ⟨FD10, hdv10, -, -⟩ := hp10.devL
          have hus10 := unsynced_any pd _ FD10 w10 hdv10
          rw [show ({ s with l := l', there := s.there, pages := s.there, spare := [], n := 0, H := fun _ => noChg } : PgS).dev.line.length = 0 by show s.dev.line.length = 0; rw [H4.out.2.2.2.2.2.2]; rfl] at hus10
          have H10 := Lib.hid hbw10
          clear hsp hr10 hb10 hp10 hbw10 hdv10 H9
          go_wp2_with fail
          refine hus10.mono ?_
          rintro e w' ⟨rfl, rfl⟩
          clear hus10
          go_wp2_with fail
          go_ret
          exact ⟨rfl, H10.out⟩

theorem walk (w : World) (v0 : Value) (l0 : List Int) (r0 : Reads1 w w.heap.size v0 (l0.map (.int .i64))) (i0 : ∀ x ∈ l0, IsInt x) (m0 : l0.length ≤ 9223372036854775807)
    (v1 : Value) (os : List POp) (r1 : ReadsPOps w w.heap.size v1 os) (i1 : ∀ o ∈ os, o.ok) (m1 : os.length ≤ 9223372036854775807) :
    Calls Tryz.prog 5 #[v0, v1] w fun e w' => e = .returned (.bool true) ∧ Below w.heap.size w w' := by
  by_cases hl : os.length ≤ 150 ∧ ∀ o ∈ os, o.t.size ≤ 300
  · have hlg := light_yes r1 m1 i1 hl
    by_cases h20 : l0.length ≤ 20
    · exact walk_whole w v0 l0 r0 i0 h20 v1 os r1 i1 hl.1 hl.2 hlg
    · exact walk_heavy w v0 l0 r0 m0 v1 true hlg (.inr (by omega))
  · exact walk_heavy w v0 l0 r0 m0 v1 false (light_no r1 m1 i1 hl) (.inl rfl)

set_option maxRecDepth 100000 in
theorem contract (H : Type) (enc : TypeId × Value → H) (W : World) (base : Nat) (args : Array Value) (ds gs : List (DataW H)) (before : List MemPlace)
    (hval : ∀ (j : Nat) t v, Tryz.f5.params[j]? = some t → args[j]? = some v → Value.okWide Tryz.prog W .any base t v)
    (hW : DataW.Whole enc Tryz.prog Tryz.f5.params.toList Rows.pagerUndoesSpec.vars false W args.toList ds gs before) (_hL : laidMetH Tryz.prog Rows.pagerUndoesRow.laid W) :
    Calls Tryz.prog 5 args W fun e W' => ∃ v, e = .returned v ∧ Rows.pagerUndoesSpec.post enc Tryz.prog Tryz.f5 false true false false W args v W' := by
  have hW' := hW
  obtain ⟨p, q, hA0, hV, rfl, hfz, hnd⟩ := hW
  have hA : DataW.TrodAll enc Tryz.prog W 0 (fun _ => true) true Tryz.f5.params.toList args.toList ds p := hA0
  rw [Tryz.params5] at hA hval
  obtain ⟨v0, vs0, d0, ds0, p0, q0, hargs, rfl, rfl, h0, r00⟩ := trodAll_cons hA
  obtain ⟨v1, vs1, d1, ds1, p1, q1, rfl, rfl, rfl, h1, r01⟩ := trodAll_cons r00
  obtain ⟨rfl, rfl, rfl⟩ := trodAll_nil r01
  obtain rfl : args = #[v0, v1] := by cases args; simp_all
  obtain ⟨rfl, rfl⟩ := trodVars_none hV
  obtain ⟨l0, r0, i0, m0⟩ := reads_ints (hval 0 27 v0 rfl rfl) h0
  obtain ⟨os1, r1, i1, m1⟩ := reads_pops (hval 1 61 v1 rfl rfl) h1
  clear hA0
  refine (walk W v0 l0 r0 i0 m0 v1 os1 r1 i1 m1).mono fun e W' ⟨he, hb⟩ => ?_
  subst he
  exact ⟨_, rfl, law_post hW' rfl rfl (by kernel_rfl) (by kernel_rfl) hb⟩

theorem reads (os : Os) {H : Type} (enc : TypeId × Value → H) : ∃ places, DataW.whole enc Tryz.prog ((laidWorld os).forCall (fun _ _ => 0) ⟨#[], #[.slice none 0 0, .slice none 0 0], []⟩).memory Tryz.f5.params.toList Rows.pagerUndoesSpec.vars false (#[.slice none 0 0, .slice none 0 0] : Array Value).toList 8 = some ([.nil, .nil], [], places) :=
  ⟨[], by kernel_rfl⟩

set_option maxRecDepth 100000 in
theorem lifted (os : Os) (started : os.Started) (H : Type) (enc : TypeId × Value → H) (F : Stop.Interp) :
    ReturnsInHanded {} Tryz.checked os 5 .any ((OpenSpec.ofChange Rows.pagerUndoesSpec).preRow enc Tryz.prog Tryz.f5 Rows.pagerUndoesRow.domain false Rows.pagerUndoesRow.laid) (((OpenSpec.ofChange Rows.pagerUndoesSpec).at F).post enc Tryz.prog Tryz.f5 false true false false) := by
  obtain ⟨places, hx⟩ := reads os enc
  refine returnsInHanded_of_row (C := Tryz.checked) (s := OpenSpec.ofChange Rows.pagerUndoesSpec) own started (by kernel_rfl) Tryz.func5
    (witness_row_at (enc := enc) (C := Tryz.checked) false (laidWorld os) #[.slice none 0 0, .slice none 0 0] (laid_os os) (by kernel_rfl) (by kernel_rfl) (by kernel_rfl)
      (OpenSpec.preRow_of_cond 8 hx (by kernel_rfl) (fun k hk => by cases hk) (by kernel_rfl) (laid_met os _))) ?_
  intro W base args ds gs before hval hW _ _ _ hL _ _
  exact contract H enc W base args ds gs before hval hW hL

set_option maxRecDepth 100000 in
theorem said : Rows.PagerUndoesSaid :=
  OpenClaim.holds_of_cond 5 Tryz.f5 rfl rfl rfl rfl rfl rfl rfl ⟨rfl, rfl, rfl, rfl, rfl⟩ rfl rfl rfl rfl rfl (by kernel_rfl) Tryz.func5 (by kernel_rfl)
    (of_decide_eq_true (by kernel_rfl)) (by unfold Func.isWrapper; first | (rw [if_pos (by decide +kernel)]; kernel_rfl) | (rw [if_neg (by decide +kernel)]; exact ⟨rfl, rfl⟩))
    (fun os started H enc _ F => by rw [OpenClaim.pre_eq_preRow]; exact lifted os started H enc F)

set_option maxRecDepth 100000 in
theorem plain (f : FuncId) (fn : Func) (hf : Tryz.pinned.checked.prog.funcNamed "arboretum/arboretumlaw7.PagerUndoes" = some f) (hfn : Tryz.pinned.checked.prog.funcs[f]? = some fn) :
    true = Tryz.pinned.checked.prog.looks [] ∧ ∀ (j : Nat) t, fn.params[j]? = some t → Tryz.pinned.checked.prog.wantsStandIn t = false := by
  obtain rfl : f = 5 := Option.some.inj ((show Tryz.prog.funcNamed "arboretum/arboretumlaw7.PagerUndoes" = some 5 by kernel_rfl).symm.trans hf) |>.symm
  obtain rfl : fn = Tryz.f5 := (Option.some.inj (Tryz.func5.symm.trans hfn)).symm
  refine ⟨by kernel_rfl, fun j t ht => ?_⟩
  rw [Tryz.params5] at ht
  have hm : t ∈ [27, 61] := by simpa using Array.mem_of_getElem? ht
  have hall : ([27, 61].all fun u => !Tryz.prog.wantsStandIn u) = true := by kernel_rfl
  exact (show Tryz.prog.wantsStandIn t = false by simpa using List.all_eq_true.1 hall t hm)

theorem card : Rows.PagerUndoesCardSaid :=
  Claim7.holds_tied_plain_at .later [] _ _ _ _ said (fun _ h => by cases h) (by kernel_rfl) (fun _ h => by cases h) pagerUndoes_row_tie rfl ⟨rfl, rfl⟩ (by kernel_rfl) rfl plain (by kernel_rfl)

end Go.Proofs.YtmcfldcpmjdfbaaGreatDoor.pagerUndoes
