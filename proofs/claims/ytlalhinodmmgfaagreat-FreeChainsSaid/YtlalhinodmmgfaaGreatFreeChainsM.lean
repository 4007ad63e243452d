/-
  FreeChains (P603): numbers as bodies, bodies as numbers, all answers as the document's own; lists kept, marked, grown. For every numbers and every texts.
-/
import Derived.Test.YtlalhinodmmgfaaGreatMg33
import Derived.Test.YtlalhinodmmgfaaGreatMg38
import Derived.Test.YtlalhinodmmgfaaGreatMg39
namespace Go.Proofs.YtlalhinodmmgfaaGreat.freeChains
open Go.ChangeShapes Go.WideShapes Go.ChangeAt Go.RowKit Go.Proofs.YtlalhinodmmgfaaGreat.BQ

set_option maxRecDepth 100000 in
set_option maxHeartbeats 8000000 in
theorem walk (w : World) (v0 : Value) (l : List Int) (hr : Reads1 w w.heap.size v0 (l.map (Value.int .i64))) (hi : ∀ x ∈ l, IsInt x) (hf0 : l.length ≤ 9223372036854775807 ∧ ∀ n c, v0 = .slice none n c → n = 0 ∧ c = 0)
    (v1 : Value) (b : List ByteArray) (hrb : Reads1 w w.heap.size v1 (b.map Value.string)) (hib : ∀ s ∈ b, s.size ≤ 9223372036854775807) (hfb : b.length ≤ 9223372036854775807 ∧ ∀ n c, v1 = .slice none n c → n = 0 ∧ c = 0) :
    Calls Tryz.prog 3 #[v0, v1] w fun e w' => e = .returned (.bool true) ∧ Below w.heap.size w w' := by
  have HAL := Lib.hid (fun W => alive6_any W)
  have hsm := short_any 60 6000 v1 b w (by decide) (by decide) hrb hfb.1 hib _ rfl
  have hform : ∃ A c, v0 = .slice A l.length c := by obtain ⟨A, c, h, _⟩ := hr; exact ⟨A, c, by simpa using h⟩
  obtain ⟨A0, c0, hv0⟩ := hform
  have HR := Lib.hid (And.intro hr (And.intro hi (And.intro hf0.2 (And.intro hrb hfb.2))))
  have hl63 := hf0.1
  subst hv0
  clear hr hi hf0 hrb hib hfb
  by_cases hl4 : (l.length : Int) ≤ 400
  · by_cases hsh : b.length ≤ 60 ∧ sizes b ≤ 6000
    · rw [decide_eq_true hsh] at hsm
      have HNUM := Lib.hid (And.intro (show l.length ≤ 400 by omega) hsh)
      clear hsh
      go_enter Tryz.func3, Tryz.ntmps3
      go_wp2_with fail
      refine hsm.mono ?_
      rintro e w2 ⟨rfl, hb2⟩
      clear hsm
      have HBB := Lib.hid hb2
      have HBK := Lib.hid (Bk.new (Below.refl w2.heap.size w2) (Nat.le_refl _))
      have HR0 := Lib.hid (fun W (hb : Below w2.heap.size w2 W) => ((HR.out.1.below (HBB.out.trans (hb.mono HBB.out.size))).mono (Nat.le_trans HBB.out.size hb.size)))
      have HR1 := Lib.hid (fun W (hb : Below w2.heap.size w2 W) => ((HR.out.2.2.2.1.below (HBB.out.trans (hb.mono HBB.out.size))).mono (Nat.le_trans HBB.out.size hb.size)))
      clear hb2
      go_wp2_with fail
      go_loopg [6] 2 (fun g iv wr => ∃ k : Nat, iv = .int .i64 k ∧ k + g = 2 ∧ Bk w2.heap.size w2 wr w2.heap.size k wr.heap.size)
      case atStart => exact ⟨0, rfl, rfl, HBK.out.now⟩
      case round =>
        clear HBK
        obtain ⟨k, rfl, hkg, hbk⟩ := hrel
        have HB0 := Lib.hid hbk
        have HG := Lib.hid hkg
        clear hbk
        by_cases hlt : k < 2
        · have hltI : (k : Int) < 2 := by omega
          have hbz : ∀ s ∈ b, s.size ≤ 6000 := fun s hs => Nat.le_trans (sizes_mem b s hs) HNUM.out.2.2
          have HBZ := Lib.hid hbz
          clear hlt hbz
          have HW0 := Lib.hid HB0.out.below
          obtain ⟨CL, hCL⟩ : ∃ S, chL l = S := ⟨_, rfl⟩
          obtain ⟨CE, hCE⟩ : ∃ S, chE l = S := ⟨_, rfl⟩
          obtain ⟨UL, hUL⟩ : ∃ S, unL b = S := ⟨_, rfl⟩
          obtain ⟨UE, hUE⟩ : ∃ S, unE b = S := ⟨_, rfl⟩
          have HE := Lib.hid (And.intro hCL (And.intro hCE (And.intro hUL hUE)))
          have hcl : CL.length ≤ 100 := by rw [← hCL]; exact ch_few HNUM.out.1
          have hcs : ∀ s ∈ CL, s.size ≤ 6000 := by rw [← hCL]; exact ch_small l
          have hul : UL.length ≤ 150000 := by rw [← hUL]; exact un_few HBZ.out (by have := HNUM.out.2.1; omega)
          have HLEN := Lib.hid (And.intro hcl (And.intro hcs hul))
          clear hCL hCE hUL hUE hcl hcs hul
          have q := lentInts_any (.slice A0 l.length c0) _ wr (HR0.out _ HW0.out.1) HR.out.2.2.1 int_one (by rw [List.length_map]; have := HNUM.out.1; omega)
          go_wp2_with fail
          refine q.mono ?_
          rintro e A1 ⟨m0, rfl, hm, hb⟩
          have K1 := Lib.hid hb
          have HW1 := Lib.hid (And.intro (HW0.out.1.trans (hb.mono HW0.out.2)) (Nat.le_trans HW0.out.2 hb.size))
          obtain ⟨gm, cm, rfl, hm2⟩ := LentR.of hm
          have HM := Lib.hid hm2
          clear hm hm2
          rw [List.length_map]
          clear q hb
          have q := lentTexts_any v1 _ A1 (HR1.out _ HW1.out.1) HR.out.2.2.2.2 (fun u hu => by obtain ⟨y, _, rfl⟩ := List.mem_map.1 hu; rfl) (by rw [List.length_map]; have := HNUM.out.2.1; omega)
          go_wp2_with fail
          refine q.mono ?_
          rintro e A2 ⟨t0, rfl, ht, hb⟩
          have K2 := Lib.hid hb
          have HW2 := Lib.hid (And.intro (HW1.out.1.trans (hb.mono HW1.out.2)) (Nat.le_trans HW1.out.2 hb.size))
          obtain ⟨gt, ct, rfl, ht2⟩ := LentR.of ht
          have HT := Lib.hid ht2
          replace HM := Lib.hid (HM.out.on hb)
          clear ht ht2
          rw [List.length_map]
          clear q hb
          have q := chain_form HM.out HNUM.out.1 HR.out.2.1
          simp only [HE.out.1, HE.out.2.1, List.length_map] at q
          go_wp2_with fail
          refine q.mono ?_
          rintro e A3 ⟨x, rfl, hx, hb⟩
          have K3 := Lib.hid hb
          have HW3 := Lib.hid (And.intro (HW2.out.1.trans (hb.mono HW2.out.2)) (Nat.le_trans HW2.out.2 hb.size))
          have HX := Lib.hid (InR.of hx)
          clear hx
          replace HM := Lib.hid (HM.out.on hb)
          replace HT := Lib.hid (HT.out.on hb)
          clear q hb
          have q := refChain_form (HR0.out _ HW3.out.1) HNUM.out.1 HR.out.2.1
          simp only [HE.out.1, HE.out.2.1] at q
          go_wp2_with fail
          refine q.mono ?_
          rintro e A4 ⟨y, rfl, hy, hb⟩
          have K4 := Lib.hid hb
          have HW4 := Lib.hid (And.intro (HW3.out.1.trans (hb.mono HW3.out.2)) (Nat.le_trans HW3.out.2 hb.size))
          have HY := Lib.hid (InR.of hy)
          clear hy
          replace HM := Lib.hid (HM.out.on hb)
          replace HT := Lib.hid (HT.out.on hb)
          replace HX := Lib.hid (HX.out.on hb)
          clear q hb
          have q := unchain_form HT.out.lent.reads (by have := HNUM.out.2.1; omega) HBZ.out
          simp only [HE.out.2.2.1, HE.out.2.2.2, List.length_map] at q
          go_wp2_with fail
          refine q.mono ?_
          rintro e A5 ⟨u, rfl, hu, hb⟩
          have K5 := Lib.hid hb
          have HW5 := Lib.hid (And.intro (HW4.out.1.trans (hb.mono HW4.out.2)) (Nat.le_trans HW4.out.2 hb.size))
          have HU := Lib.hid (InR.of hu)
          clear hu
          replace HM := Lib.hid (HM.out.on hb)
          replace HT := Lib.hid (HT.out.on hb)
          replace HX := Lib.hid (HX.out.on hb)
          replace HY := Lib.hid (HY.out.on hb)
          clear q hb
          have q := refUnchain_form (HR1.out _ HW5.out.1) (by have := HNUM.out.2.1; omega) HBZ.out
          simp only [HE.out.2.2.1, HE.out.2.2.2] at q
          go_wp2_with fail
          refine q.mono ?_
          rintro e A6 ⟨v, rfl, hv, hb⟩
          have K6 := Lib.hid hb
          have HW6 := Lib.hid (And.intro (HW5.out.1.trans (hb.mono HW5.out.2)) (Nat.le_trans HW5.out.2 hb.size))
          have HV := Lib.hid (InR.of hv)
          clear hv
          replace HM := Lib.hid (HM.out.on hb)
          replace HT := Lib.hid (HT.out.on hb)
          replace HX := Lib.hid (HX.out.on hb)
          replace HY := Lib.hid (HY.out.on hb)
          replace HU := Lib.hid (HU.out.on hb)
          clear q hb
          have q := sameTexts_any x y CL A6 HX.out.reads HY.out.reads (by have := HLEN.out.1; omega)
          go_wp2_with fail
          refine q.mono ?_
          rintro e A7 ⟨rfl, hb⟩
          have K7 := Lib.hid hb
          have HW7 := Lib.hid (And.intro (HW6.out.1.trans (hb.mono HW6.out.2)) (Nat.le_trans HW6.out.2 hb.size))
          replace HM := Lib.hid (HM.out.on hb)
          replace HT := Lib.hid (HT.out.on hb)
          replace HX := Lib.hid (HX.out.on hb)
          replace HU := Lib.hid (HU.out.on hb)
          replace HV := Lib.hid (HV.out.on hb)
          clear q hb
          have q := sameInts_any u v UL A7 HU.out.reads HV.out.reads (by have := HLEN.out.2.2; omega)
          go_wp2_with fail
          refine q.mono ?_
          rintro e A8 ⟨rfl, hb⟩
          have K8 := Lib.hid hb
          have HW8 := Lib.hid (And.intro (HW7.out.1.trans (hb.mono HW7.out.2)) (Nat.le_trans HW7.out.2 hb.size))
          replace HM := Lib.hid (HM.out.on hb)
          replace HT := Lib.hid (HT.out.on hb)
          replace HX := Lib.hid (HX.out.on hb)
          replace HU := Lib.hid (HU.out.on hb)
          replace HV := Lib.hid (HV.out.on hb)
          clear q hb
          have q := staysInts_any 0 _ (.slice A0 l.length c0) l A8 HM.out.lent (HR0.out _ HW8.out.1) (by have := HNUM.out.1; omega)
          simp only [List.length_map] at q
          go_wp2_with fail
          refine q.mono ?_
          rintro e A9 ⟨rfl, hb⟩
          have K9 := Lib.hid hb
          have HW9 := Lib.hid (And.intro (HW8.out.1.trans (hb.mono HW8.out.2)) (Nat.le_trans HW8.out.2 hb.size))
          replace HM := Lib.hid (HM.out.on hb)
          replace HT := Lib.hid (HT.out.on hb)
          replace HX := Lib.hid (HX.out.on hb)
          replace HU := Lib.hid (HU.out.on hb)
          replace HV := Lib.hid (HV.out.on hb)
          clear q hb
          have q := staysTexts_any 0 _ v1 b A9 HT.out.lent (HR1.out _ HW9.out.1) (by have := HNUM.out.2.1; omega)
          simp only [List.length_map] at q
          go_wp2_with fail
          refine q.mono ?_
          rintro e B0 ⟨rfl, hb⟩
          have K10 := Lib.hid hb
          have HW10 := Lib.hid (And.intro (HW9.out.1.trans (hb.mono HW9.out.2)) (Nat.le_trans HW9.out.2 hb.size))
          replace HM := Lib.hid (HM.out.on hb)
          replace HT := Lib.hid (HT.out.on hb)
          replace HX := Lib.hid (HX.out.on hb)
          replace HU := Lib.hid (HU.out.on hb)
          replace HV := Lib.hid (HV.out.on hb)
          clear q hb
          have hs : wr.heap.size ≤ A2.heap.size := Nat.le_trans K1.out.size K2.out.size
          have hs4 : A2.heap.size ≤ A4.heap.size := Nat.le_trans K3.out.size K4.out.size
          have hb0B : Below wr.heap.size wr B0 := by
            have c9 := K10.out
            have c8 := K9.out.trans (c9.mono K9.out.size)
            have c7 := K8.out.trans (c8.mono K8.out.size)
            have c6 := K7.out.trans (c7.mono K7.out.size)
            have c5 := K6.out.trans (c6.mono K6.out.size)
            have c4 := K5.out.trans (c5.mono K5.out.size)
            have c3 := K4.out.trans (c4.mono K4.out.size)
            have c2 := K3.out.trans (c3.mono K3.out.size)
            have c1 := K2.out.trans (c2.mono K2.out.size)
            exact K1.out.trans (c1.mono K1.out.size)
          have hA3B : A3.heap.size ≤ B0.heap.size := by
            have := K4.out.size
            have := K5.out.size
            have := K6.out.size
            have := K7.out.size
            have := K8.out.size
            have := K9.out.size
            have := K10.out.size
            omega
          have h35 : A3.heap.size ≤ A4.heap.size := K4.out.size
          obtain ⟨hv', hc', L, dv', dc', M, hB, hn, hxs, hft, h0, hbs⟩ := HB0.out.on hb0B
          have hn2 : L.length ≤ 2 ∧ M.length ≤ 2 := by have := HG.out; omega
          have q := BQ.keepI_any (xs := CL) hB HX.out.1 (fun g hg hin => by have h1 := HX.out.2 g hg; have h2 := hft g hin; omega) (by omega) (by have := HLEN.out.1; omega)
          have HQ := Lib.hid (And.intro hB (And.intro hn (And.intro hxs (And.intro hft (And.intro h0 (And.intro hbs (And.intro hb0B (And.intro hs (And.intro hs4 (And.intro hA3B (And.intro hn2 h35)))))))))))
          clear hB hn hxs hft h0 hbs hb0B hs hs4 hA3B hn2 h35 K1 K2 K3 K4 K5 K6 K7 K8 K9 K10 HY HV
          go_wp2_with fail
          refine q.mono ?_
          rintro e C1 ⟨rfl, hv2, hc2, cx, hB1, hk1, hf1⟩
          have hU1 := HU.out.kept hk1 (fun g hg => .inl (by have h1 := (HQ.out.2.2.2.1 g hg).2; have := HQ.out.2.2.2.2.2.2.2.1; have := HQ.out.2.2.2.2.2.2.2.2.1; omega))
          have q2 := BQ.keepD_any (xs := UL) hB1 hU1.1 (fun g hg hin => by
            have h1 := hU1.2 g hg
            have hlt := (HU.out.1.lt g hg).2
            have := HQ.out.2.2.2.2.2.2.2.1
            have := HQ.out.2.2.2.2.2.2.2.2.1
            have := HQ.out.2.2.2.2.2.2.2.2.2.2.2
            rcases hf1 g hin with h | h | h
            · have := (HQ.out.2.2.2.1 g h).2; omega
            · have := HX.out.2 g h; omega
            · omega) (by have := HQ.out.2.2.2.2.2.2.2.2.2.2.1; omega) (by have := HLEN.out.2.2; omega)
          have HQ1 := Lib.hid (And.intro hk1 hf1)
          clear q hB1 hk1 hf1 hU1
          go_wp2_with fail
          refine q2.mono ?_
          rintro e C2 ⟨rfl, dv2, dc2, cu, hB2, hk2, hf2⟩
          have hof := Bk.of HQ.out.1 HQ.out.2.1 HQ.out.2.2.1 HQ.out.2.2.2.1 HQ.out.2.2.2.2.1 HQ.out.2.2.2.2.2.1 (Nat.le_trans (Nat.le_refl _) HQ.out.2.2.2.2.2.2.1.size) (by have := HLEN.out.1; omega) (by have := HLEN.out.2.2; omega) HX.out.2 HU.out.2 HQ.out.2.2.2.2.2.2.2.1 (Nat.le_trans HQ.out.2.2.2.2.2.2.2.1 HQ.out.2.2.2.2.2.2.2.2.1) HQ.out.2.2.2.2.2.2.2.2.2.1 HQ1.out.1 HQ1.out.2 hB2 hk2 hf2 HW0.out.2
          have HO := Lib.hid hof
          clear q2 hB2 hk2 hf2 hof HX HU HQ HQ1 HM HT HW1 HW2 HW3 HW4 HW5 HW6 HW7 HW8 HW9 HW10
          by_cases hce : CE = 0
          · subst hce
            have hback := ch_back (l := l) HE.out.2.1
            rw [HE.out.1] at hback
            have q := unchain_form (row_reads1 HO.out.2.1) HLEN.out.1 HLEN.out.2.1
            rw [hback.1, hback.2] at q
            clear hback
            go_wp2_with fail
            refine q.mono ?_
            rintro e C3 ⟨w9, rfl, hw9, hb⟩
            have HO3 := Lib.hid (HO.out.1.on hb)
            have H9 := Lib.hid (InR.of hw9)
            clear q hw9 hb HO
            have q := sameInts_any w9 (.slice A0 l.length c0) l C3 H9.out.reads (HR0.out _ HO3.out.below.1) (by have := HNUM.out.1; omega)
            go_wp2_with fail
            refine q.mono ?_
            rintro e C4 ⟨rfl, hb⟩
            have HO4 := Lib.hid (HO3.out.on hb)
            clear q hb
            go_wp2_with fail
            go_roundg (2 - (k + 1))
            case measure => have := HG.out; omega
            case rel => exact ⟨k + 1, by go_num, by have := HG.out; omega, HO4.out.now⟩
          · have hce1 : (CE == 0) = false := by rw [beq_eq_false_iff_ne]; exact hce
            have hce2 : decide (CE = 0) = false := decide_eq_false hce
            clear hce
            go_wp2_with fail
            go_roundg (2 - (k + 1))
            case measure => have := HG.out; omega
            case rel => exact ⟨k + 1, by go_num, by have := HG.out; omega, HO.out.1.now⟩
        · obtain rfl : k = 2 := by omega
          obtain ⟨hv', hc', L, dv', dc', M, hB, hn, hxs, hft, h0, hbs⟩ := HB0.out
          have H1 := Lib.hid (And.intro hB (And.intro hn (And.intro hxs (And.intro hft (And.intro h0 hbs)))))
          clear hB hn hxs hft h0 hbs
          go_wp2_with fail
          refine (HAL.out _).mono ?_
          rintro e wa ⟨rfl, hba⟩
          have q := BQ.apart_any (H1.out.1.below hba) (by have := H1.out.2.1; omega) (by have := H1.out.2.1; omega) H1.out.2.2.1.1 H1.out.2.2.1.2
          have H2 := Lib.hid hba
          clear hba
          go_wp2_with fail
          refine q.mono ?_
          rintro e wb ⟨rfl, hkb⟩
          have H3 := Lib.hid hkb
          clear hkb q
          go_wp2_with fail
          go_ret
          exact ⟨rfl, HBB.out.trans ((H1.out.2.2.2.2.1.trans ((H2.out.mono H1.out.2.2.2.2.2).trans (H3.out.below (Nat.le_trans H1.out.2.2.2.2.2 H2.out.size) (fun g hg => (H1.out.2.2.2.1 g hg).1)))).mono HBB.out.size)⟩
    · rw [decide_eq_false hsh] at hsm
      clear hsh
      go_enter Tryz.func3, Tryz.ntmps3
      go_wp2_with fail
      refine hsm.mono ?_
      rintro e w2 ⟨rfl, hb2⟩
      have HBB := Lib.hid hb2
      clear hsm hb2
      go_wp2_with fail
      refine (HAL.out _).mono ?_
      rintro e wa ⟨rfl, hba⟩
      have HZ := Lib.hid (HBB.out.trans (hba.mono HBB.out.size))
      clear hba
      go_wp2_with fail
      go_ret
      exact ⟨rfl, HZ.out⟩
  · have HBB := Lib.hid (Below.refl w.heap.size w)
    clear hsm
    go_enter Tryz.func3, Tryz.ntmps3
    go_wp2_with fail
    refine (HAL.out _).mono ?_
    rintro e wa ⟨rfl, hba⟩
    have HZ := Lib.hid (HBB.out.trans (hba.mono HBB.out.size))
    clear hba
    go_wp2_with fail
    go_ret
    exact ⟨rfl, HZ.out⟩

set_option maxRecDepth 100000 in
theorem lifted (os : Os) (started : os.Started) (H : Type) (enc : TypeId × Value → H) :
    ReturnsInHanded {} Tryz.checked os 3 .any (Rows.freeChainsSpec.pre6 enc Tryz.prog Tryz.f3 Rows.freeChainsRow.domain false) (Rows.freeChainsSpec.post enc Tryz.prog Tryz.f3 false true false false) := by
  refine returnsInHanded_of_change (C := Tryz.checked) own started (by kernel_rfl) Tryz.func3
    (ChangeSpec.witness6 (enc := enc) (C := Tryz.checked) false ⟨#[], #[.slice none 0 0, .slice none 0 0], []⟩ 8 (by kernel_rfl) (by kernel_rfl) (by kernel_rfl) (by kernel_rfl)) ?_
  intro W base args ds gs before hval0 hW hcnd _
  have hval : ∀ (j : Nat) t v, Tryz.f3.params[j]? = some t → args[j]? = some v → Value.okWide Tryz.prog W .any base t v := hval0
  have hW' := hW
  obtain ⟨p, q, hA0, hV, rfl, hfz, hnd⟩ := hW
  have hA : DataW.TrodAll enc Tryz.prog W 0 (fun _ => true) true Tryz.f3.params.toList args.toList ds p := hA0
  rw [Tryz.params3] at hA hval
  obtain ⟨v0, vs0, d0, ds0, p0, q0, hargs, rfl, rfl, h0, r00⟩ := trodAll_cons hA
  obtain ⟨v1, vs1, d1, ds1, p1, q1, rfl, rfl, rfl, h1, r01⟩ := trodAll_cons r00
  obtain ⟨rfl, rfl, rfl⟩ := trodAll_nil r01
  obtain rfl : args = #[v0, v1] := by cases args; simp_all
  obtain ⟨rfl, rfl⟩ := trodVars_none hV
  obtain ⟨l0, r0, i0, m0⟩ := reads_intsF (hval 0 22 v0 rfl rfl) h0
  obtain ⟨l1, r1, i1, m1⟩ := reads_textsF (hval 1 23 v1 rfl rfl) h1
  clear hA0 hval0
  refine (walk W v0 l0 r0 i0 m0 v1 l1 r1 i1 m1).mono fun e W' ⟨he, hb⟩ => ?_
  subst he
  exact ⟨_, rfl, law_post hW' rfl rfl (by kernel_rfl) (by kernel_rfl) hb⟩

theorem said : Rows.FreeChainsSaid :=
  OpenClaim.holds_of_wide 3 Tryz.f3 rfl rfl rfl rfl rfl rfl rfl ⟨rfl, rfl, rfl, rfl, rfl⟩ rfl rfl rfl rfl rfl (by kernel_rfl) Tryz.func3 (by kernel_rfl)
    (of_decide_eq_true (by kernel_rfl)) (by unfold Func.isWrapper; first | (rw [if_pos (by decide +kernel)]; kernel_rfl) | (rw [if_neg (by decide +kernel)]; exact ⟨rfl, rfl⟩))
    (fun os started H enc _ => lifted os started H enc)
end Go.Proofs.YtlalhinodmmgfaaGreat.freeChains
