/-
  LeafTells (P801, P802): items as bytes, bytes as items, all answers as the document's own, lists that are kept, marked and grown. For every items, every bytes, every key and every item.
-/
import Derived.Test.YtpfifmjcmpankaaGreatMg28
import Derived.Test.YtpfifmjcmpankaaGreatMg29
import Derived.Test.YtpfifmjcmpankaaGreatMg47
import Derived.Test.YtpfifmjcmpankaaGreatMg40
import Derived.Test.YtpfifmjcmpankaaGreatMg49
namespace Go.Proofs.YtpfifmjcmpankaaGreat.leafTells
open Go.ChangeShapes Go.WideShapes Go.ChangeAt Go.RowKit Go.Proofs.YtpfifmjcmpankaaGreat.BI

set_option maxRecDepth 100000 in
set_option maxHeartbeats 8000000 in
theorem walk (w : World) (v0 : Value) (l : List Itm) (hr : ReadsIt w w.heap.size v0 l) (hok : ∀ x ∈ l, x.ok) (b : ByteArray) (hb : b.size ≤ 9223372036854775807) (key : ByteArray) (hkey : key.size ≤ 9223372036854775807) (x : Itm) (hx : x.ok) :
    Calls Tryz.prog 3 #[v0, .string b, .string key, iagg x] w fun e w' => e = .returned (.bool true) ∧ Below w.heap.size w w' := by
  have HAL := Lib.hid (fun W => alive8_any W)
  have HR := Lib.hid (And.intro hr (And.intro hok (And.intro hx (And.intro hb hkey))))
  have hb0 : Below w.heap.size w (w.alloc (iobj x)) := (Below.refl _ _).alloc (Nat.le_refl _) _
  have hxh : Has (w.alloc (iobj x)) w.heap.size 24 #[.string x.key, .string x.val, .int .i64 x.over, .int .i64 x.size] := Has.made _ _ _
  have hsm := small_any v0 l (w.alloc (iobj x)) (hr.grow hb0 hb0.size) (fun y hy => ⟨(hok y hy).1, (hok y hy).2.1⟩)
  have HX0 := Lib.hid hxh
  have HB0' := Lib.hid hb0
  clear hr hok hx hb0 hxh
  go_enter Tryz.func3, Tryz.ntmps3
  go_wp2_with fail
  refine hsm.mono ?_
  rintro e w1 ⟨B, rfl, hsb, hb1⟩
  clear hsm
  have HX1 := Lib.hid (HX0.out.below hb1 (by simp))
  have HBB := Lib.hid (HB0'.out.trans (hb1.mono (by simp)))
  clear hb1 HX0 HB0'
  cases B
  · clear hsb HX1
    go_wp2_with fail
    refine (HAL.out _).mono ?_
    rintro e wa ⟨rfl, hba⟩
    have HZ := Lib.hid (HBB.out.trans (hba.mono HBB.out.size))
    clear hba
    go_wp2_with fail
    go_ret
    exact ⟨rfl, HZ.out⟩
  · obtain ⟨hl100, hl9⟩ := hsb rfl
    clear hsb
    by_cases hbs : (b.size : Int) ≤ 3000
    · by_cases hks : (key.size : Int) ≤ 3000
      · have x0 := HX1.out.cell 0
        have x1 := HX1.out.cell 1
        have x2 := HX1.out.cell 2
        have x3 := HX1.out.cell 3
        simp at x0 x1 x2 x3
        have hsx := small_any _ [x] (w1.alloc (iobj x)) ((ReadsIt.built w1 [x] (by unfold maxLen; simp)).mono (by simp)) (fun y hy => by simp at hy; subst hy; exact ⟨HR.out.2.2.1.1, HR.out.2.2.1.2.1⟩)
        go_wp2_with fail
        refine hsx.mono ?_
        rintro e w2 ⟨B, rfl, hsb, hb2⟩
        have hb2' : Below w1.heap.size w1 w2 := ((Below.refl _ _).alloc (Nat.le_refl _) _).trans (hb2.mono (by simp))
        have hxi := HX1.out.inside
        have HX2 := Lib.hid (HX1.out.below hb2' hxi)
        have HBC := Lib.hid (HBB.out.trans (hb2'.mono HBB.out.size))
        clear hsx hb2 hb2' HBB x0 x1 x2 x3 HX1
        have HBB := HBC
        cases B
        · clear hsb HX2 hxi
          go_wp2_with fail
          refine (HAL.out _).mono ?_
          rintro e wa ⟨rfl, hba⟩
          have HZ := Lib.hid (HBB.out.trans (hba.mono HBB.out.size))
          clear hba
          go_wp2_with fail
          go_ret
          exact ⟨rfl, HZ.out⟩
        · obtain ⟨_, hx9⟩ := hsb rfl
          clear hsb hxi
          have HNUM := Lib.hid (And.intro hl100 (And.intro hl9 (And.intro hx9 (And.intro hbs hks))))
          clear hl100 hl9 hx9
          have HBK := Lib.hid (Bk.new (Below.refl w2.heap.size w2) (Nat.le_refl _))
          have HR0 := Lib.hid (fun W (hb : Below w2.heap.size w2 W) => HR.out.1.grow (HBB.out.trans (hb.mono HBB.out.size)) (Nat.le_trans HBB.out.size hb.size))
          have HX := Lib.hid (fun W (hb : Below w2.heap.size w2 W) => (HX2.out.below hb HX2.out.inside : Has W w.heap.size 24 #[.string x.key, .string x.val, .int .i64 x.over, .int .i64 x.size]))
          clear HBC HX2
          go_wp2_with fail
          go_loopg [10] 2 (fun g iv wr => ∃ k : Nat, iv = .int .i64 k ∧ k + g = 2 ∧ Bk w2.heap.size w2 wr w2.heap.size (5 * k) 0 0)
          case atStart => exact ⟨0, rfl, rfl, HBK.out⟩
          case round =>
            clear HBK
            obtain ⟨k, rfl, hkg, hbk⟩ := hrel
            have HB0 := Lib.hid hbk
            have HG := Lib.hid hkg
            clear hbk
            by_cases hlt : k < 2
            · have hltI : (k : Int) < 2 := by omega
              have hfl : ∀ y ∈ l, y.fair := fun y hy => ⟨by have := itSizes_mem hy; have := HNUM.out.2.1; omega, by have := itSizes_mem hy; have := HNUM.out.2.1; omega, (HR.out.2.1 y hy).2.2⟩
              have hfz : ∀ y ∈ l, y.key.size ≤ 281474976710656 ∧ y.val.size ≤ 281474976710656 := fun y hy => by have := (hfl y hy).1; have := (hfl y hy).2.1; omega
              have hfx : ∀ y ∈ x :: l, y.key.size ≤ 281474976710656 ∧ y.val.size ≤ 281474976710656 := fun y hy => by
                rcases List.mem_cons.1 hy with rfl | hy
                · have h1 := itSizes_mem (l := [y]) (x := y) (by simp); have := HNUM.out.2.2.1; omega
                · exact hfz y hy
              have hsz : sz l ≤ 1000000 := by have := sz_most hfl; have := HNUM.out.1; have := HNUM.out.2.1; omega
              have hl1 : l.length ≤ 1000 := by have := HNUM.out.1; omega
              have hb1 : b.size ≤ 3000 := by omega
              have HF := Lib.hid (And.intro hfl (And.intro hfx (And.intro hfz (And.intro hsz (And.intro hl1 hb1)))))
              clear hfl hfx hfz hsz hl1 hb1 hlt
              have HW0 := Lib.hid HB0.out.below
              obtain ⟨PB, hPB⟩ : ∃ S : ByteArray, (⟨(putB l).toArray⟩ : ByteArray) = S := ⟨_, rfl⟩
              obtain ⟨PE, hPE⟩ : ∃ E, putE l = E := ⟨_, rfl⟩
              obtain ⟨U, hU⟩ : ∃ U, getL b.data.toList = U := ⟨_, rfl⟩
              obtain ⟨GE, hGE⟩ : ∃ U, getE b.data.toList = U := ⟨_, rfl⟩
              obtain ⟨SZ, hSZ⟩ : ∃ S, sz l = S := ⟨_, rfl⟩
              have hfe : decide (OKL l ∧ sz l ≤ 240) = (PE == 0) := by
                rw [← hPE]
                unfold putE
                by_cases h1 : OKL l
                · by_cases h2 : sz l ≤ 240 <;> simp [h1, h2]
                · simp [h1]
              obtain ⟨T, hT⟩ : ∃ T, (PE == 0) = T := ⟨_, rfl⟩
              rw [hT] at hfe
              have hT2 : decide (PE = 0) = T := by rw [← hT]; simp [BEq.beq]
              have HFE := Lib.hid hfe
              have HSZ := Lib.hid hSZ
              have HE := Lib.hid (And.intro hPB (And.intro hPE (And.intro hU hGE)))
              clear hPB hPE hU hGE hfe hSZ
              have q := lent_any v0 l wr (HR0.out _ HW0.out.1) (by have := HF.out.2.2.2.2.1; omega)
              go_wp2_with fail
              refine q.mono ?_
              rintro e A1 ⟨m, rfl, hm, hb⟩
              have K1 := Lib.hid hb
              have HW1 := Lib.hid (And.intro (HW0.out.1.trans (hb.mono HW0.out.2)) (Nat.le_trans HW0.out.2 hb.size))
              have HM := Lib.hid hm
              have HB1 := Lib.hid ((HB0.out.gap A1.heap.size).on hb)
              clear hm
              clear q hb
              have q := put_any m l A1 HM.out.reads (by have := HF.out.2.2.2.2.1; omega)
              simp only [HE.out.1, HE.out.2.1] at q
              go_wp2_with fail
              refine q.mono ?_
              rintro e A2 ⟨rfl, hb⟩
              have K2 := Lib.hid hb
              have HW2 := Lib.hid (And.intro (HW1.out.1.trans (hb.mono HW1.out.2)) (Nat.le_trans HW1.out.2 hb.size))
              replace HM := Lib.hid (HM.out.on hb)
              clear q hb
              have q := refPutLeaf_any v0 l A2 (HR0.out _ HW2.out.1) HF.out.1 (by have := HF.out.2.2.2.2.1; omega)
              simp only [HE.out.1, HE.out.2.1] at q
              go_wp2_with fail
              refine q.mono ?_
              rintro e A3 ⟨rfl, hb⟩
              have K3 := Lib.hid hb
              have HW3 := Lib.hid (And.intro (HW2.out.1.trans (hb.mono HW2.out.2)) (Nat.le_trans HW2.out.2 hb.size))
              replace HM := Lib.hid (HM.out.on hb)
              clear q hb
              have q := (get_any8 b A3 HR.out.2.2.2.1).mono fun e w' h => getTo_is h
              simp only [HE.out.2.2.1, HE.out.2.2.2] at q
              go_wp2_with fail
              refine q.mono ?_
              rintro e A4 ⟨u, rfl, hu, hb⟩
              have K4 := Lib.hid hb
              have HW4 := Lib.hid (And.intro (HW3.out.1.trans (hb.mono HW3.out.2)) (Nat.le_trans HW3.out.2 hb.size))
              have HU := Lib.hid (InI.of hu)
              clear hu
              replace HM := Lib.hid (HM.out.on hb)
              clear q hb
              have q := (refGet_any b A4 (by have := HF.out.2.2.2.2.2; omega)).mono fun e w' h => getTo_is h
              simp only [HE.out.2.2.1, HE.out.2.2.2] at q
              go_wp2_with fail
              refine q.mono ?_
              rintro e A5 ⟨v, rfl, hv, hb⟩
              have K5 := Lib.hid hb
              have HW5 := Lib.hid (And.intro (HW4.out.1.trans (hb.mono HW4.out.2)) (Nat.le_trans HW4.out.2 hb.size))
              have HV := Lib.hid (InI.of hv)
              replace HU := Lib.hid (HU.out.on hb)
              clear hv
              replace HM := Lib.hid (HM.out.on hb)
              clear q hb
              have HUL : Hid (U.length ≤ 900000) := Lib.hid (by rw [← HE.out.2.2.1]; exact Nat.le_trans (getL_len _) (by omega))
              have q := sameItems_any u v U A5 HU.out.1.reads HV.out.1.reads (by have := HUL.out; omega)
              go_wp2_with fail
              refine q.mono ?_
              rintro e A6 ⟨rfl, hb⟩
              have K6 := Lib.hid hb
              have HW6 := Lib.hid (And.intro (HW5.out.1.trans (hb.mono HW5.out.2)) (Nat.le_trans HW5.out.2 hb.size))
              replace HU := Lib.hid (HU.out.on hb)
              replace HM := Lib.hid (HM.out.on hb)
              clear q hb
              have q := size_any m l A6 HM.out.reads HR.out.2.1 (by have := HF.out.2.2.2.1; omega)
              simp only [HSZ.out] at q
              go_wp2_with fail
              refine q.mono ?_
              rintro e A7 ⟨rfl, hb⟩
              have K7 := Lib.hid hb
              have HW7 := Lib.hid (And.intro (HW6.out.1.trans (hb.mono HW6.out.2)) (Nat.le_trans HW6.out.2 hb.size))
              replace HU := Lib.hid (HU.out.on hb)
              replace HM := Lib.hid (HM.out.on hb)
              clear q hb
              have q := refLeafSize_any v0 l A7 (HR0.out _ HW7.out.1) HF.out.1 (by have := HF.out.2.2.2.2.1; omega)
              simp only [HSZ.out] at q
              go_wp2_with fail
              refine q.mono ?_
              rintro e A8 ⟨rfl, hb⟩
              have K8 := Lib.hid hb
              have HW8 := Lib.hid (And.intro (HW7.out.1.trans (hb.mono HW7.out.2)) (Nat.le_trans HW7.out.2 hb.size))
              replace HU := Lib.hid (HU.out.on hb)
              replace HM := Lib.hid (HM.out.on hb)
              clear q hb
              have q := fits_any m l A8 HM.out.reads (by have := HF.out.2.2.2.2.1; omega)
              simp only [HFE.out] at q
              go_wp2_with fail
              refine q.mono ?_
              rintro e A9 ⟨rfl, hb⟩
              have K9 := Lib.hid hb
              have HW9 := Lib.hid (And.intro (HW8.out.1.trans (hb.mono HW8.out.2)) (Nat.le_trans HW8.out.2 hb.size))
              replace HU := Lib.hid (HU.out.on hb)
              replace HM := Lib.hid (HM.out.on hb)
              clear q hb
              have q := stays_any _ _ m v0 l A9 HM.out (HR0.out _ HW9.out.1) (by have := HF.out.2.2.2.2.1; omega)
              go_wp2_with fail
              refine q.mono ?_
              rintro e B0 ⟨rfl, hb⟩
              have K10 := Lib.hid hb
              have HW10 := Lib.hid (And.intro (HW9.out.1.trans (hb.mono HW9.out.2)) (Nat.le_trans HW9.out.2 hb.size))
              replace HU := Lib.hid (HU.out.on hb)
              replace HM := Lib.hid (HM.out.on hb)
              clear q hb
              have hs13 : A1.heap.size ≤ A3.heap.size := Nat.le_trans K2.out.size K3.out.size
              have hs4 : A4.heap.size ≤ B0.heap.size := Nat.le_trans K5.out.size (Nat.le_trans K6.out.size (Nat.le_trans K7.out.size (Nat.le_trans K8.out.size (Nat.le_trans K9.out.size K10.out.size))))
              have hb1B : Below A1.heap.size A1 B0 := by
                have c9 := K10.out
                have c8 := K9.out.trans (c9.mono K9.out.size)
                have c7 := K8.out.trans (c8.mono K8.out.size)
                have c6 := K7.out.trans (c7.mono K7.out.size)
                have c5 := K6.out.trans (c6.mono K6.out.size)
                have c4 := K5.out.trans (c5.mono K5.out.size)
                have c3 := K4.out.trans (c4.mono K4.out.size)
                have c2 := K3.out.trans (c3.mono K3.out.size)
                exact K2.out.trans (c2.mono K2.out.size)
              obtain ⟨hv', hc', L, F, hP, hLn, hLx, hF⟩ := HB1.out.pend (R := [(u, U)]) hb1B hb1B.size (Nat.le_refl _) (fun q hq => by simp at hq; subst hq; exact HU.out.wide hs13 hs4) (List.pairwise_singleton _ _)
              have HL := Lib.hid (And.intro hLn (And.intro hLx (And.intro hF (And.intro HW10.out hb1B.size))))
              have hL10 : L.length ≤ 10 := by have := HG.out; omega
              have q := keep_any hP (by omega) (by have := HUL.out; omega)
              clear hP hLn hLx hF hs13 hs4 hb1B hL10 K1 K2 K3 K4 K5 K6 K7 K8 K9 K10 HW1 HW2 HW3 HW4 HW5 HW6 HW7 HW8 HW9 HU HV HB1
              go_wp2_with fail
              refine q.mono ?_
              rintro e S0 ⟨rfl, hv2, hc2, cu, hP⟩
              have HB2 := Lib.hid (Bk.of (n := 5 * k + 1) (lo := wr.heap.size) (hi := A1.heap.size) hP (by have := HL.out.1; simp only [List.length_append, List.length_singleton]; omega) (fun e he => by
                rcases List.mem_append.1 he with h | h
                · exact HL.out.2.1 e h
                · simp at h; subst h; exact HUL.out) (fun g hg => ⟨(HL.out.2.2.1 g hg).1, (HL.out.2.2.1 g hg).2.1⟩) HL.out.2.2.2.1.1 HL.out.2.2.2.1.2 HL.out.2.2.2.2)
              replace HM := Lib.hid (HM.out.kept hP.kept (fun g hg => (HL.out.2.2.1 g hg).2.1))
              have hA1S : A1.heap.size ≤ S0.heap.size := Nat.le_trans HL.out.2.2.2.2 hP.kept.size
              have HA1S := Lib.hid hA1S
              have HW0 := Lib.hid HB2.out.below
              clear q hP HL hA1S HW10
              have q := rises_any v0 l S0 (HR0.out _ HW0.out.1) (fun y hy => (HR.out.2.1 y hy).1)
              go_wp2_with fail
              refine q.mono ?_
              rintro e S1 ⟨rfl, hb⟩
              have K1 := Lib.hid hb
              have HW1 := Lib.hid (And.intro (HW0.out.1.trans (hb.mono HW0.out.2)) (Nat.le_trans HW0.out.2 hb.size))
              have HB3 := Lib.hid (HB2.out.on hb)
              have HA2 := Lib.hid (Nat.le_trans HA1S.out hb.size)
              clear HB2 HA1S
              replace HM := Lib.hid (HM.out.on hb)
              clear q hb
              by_cases hrise : Rise l
              · have hd : decide (Rise l) = true := decide_eq_true hrise
                rw [hd]
                have HRI := Lib.hid hrise
                clear hd hrise
                obtain ⟨LB, hLB⟩ : ∃ S, lb l key = S := ⟨_, rfl⟩
                obtain ⟨IA, hIA⟩ : ∃ S, isAt l key = S := ⟨_, rfl⟩
                obtain ⟨AL, hAL⟩ : ∃ S, setL l x = S := ⟨_, rfl⟩
                obtain ⟨CL, hCL⟩ : ∃ S, delL l key = S := ⟨_, rfl⟩
                obtain ⟨YL, hYL⟩ : ∃ U, l.take (halfL l) = U := ⟨_, rfl⟩
                obtain ⟨ZL, hZL⟩ : ∃ U, l.drop (halfL l) = U := ⟨_, rfl⟩
                have HE2 := Lib.hid (And.intro hLB (And.intro hIA (And.intro hAL (And.intro hCL (And.intro hYL hZL)))))
                have hALl : AL.length ≤ 900000 := by
                  rw [← hAL]
                  unfold setL
                  simp only [List.length_append, List.length_cons, List.length_take, List.length_drop]
                  have := HF.out.2.2.2.2.1
                  omega
                have hCLl : CL.length ≤ 900000 := by
                  rw [← hCL]
                  unfold delL
                  have := HF.out.2.2.2.2.1
                  split
                  · simp only [List.length_append, List.length_take, List.length_drop]; omega
                  · omega
                have hYl : YL.length ≤ 900000 := by rw [← hYL, List.length_take]; have := HF.out.2.2.2.2.1; omega
                have hZl : ZL.length ≤ 900000 := by rw [← hZL, List.length_drop]; have := HF.out.2.2.2.2.1; omega
                have HLEN := Lib.hid (And.intro hALl (And.intro hCLl (And.intro hYl hZl)))
                clear hLB hIA hAL hCL hYL hZL hALl hCLl hYl hZl
                have q := find_any m l key S1 HM.out.reads HRI.out (by have := HF.out.2.2.2.2.1; omega)
                simp only [HE2.out.1, HE2.out.2.1] at q
                go_wp2_with fail
                refine q.mono ?_
                rintro e S2 ⟨rfl, hb⟩
                have K2 := Lib.hid hb
                have HW2 := Lib.hid (And.intro (HW1.out.1.trans (hb.mono HW1.out.2)) (Nat.le_trans HW1.out.2 hb.size))
                replace HB3 := Lib.hid (HB3.out.on hb)
                replace HA2 := Lib.hid (Nat.le_trans HA2.out hb.size)
                replace HM := Lib.hid (HM.out.on hb)
                clear q hb
                have q := refFind_any v0 l key S2 (HR0.out _ HW2.out.1) (fun y hy => (HR.out.2.1 y hy).1) HR.out.2.2.2.2 (by have := HF.out.2.2.2.2.1; omega)
                simp only [HE2.out.1, HE2.out.2.1] at q
                go_wp2_with fail
                refine q.mono ?_
                rintro e S3 ⟨rfl, hb⟩
                have K3 := Lib.hid hb
                have HW3 := Lib.hid (And.intro (HW2.out.1.trans (hb.mono HW2.out.2)) (Nat.le_trans HW2.out.2 hb.size))
                replace HB3 := Lib.hid (HB3.out.on hb)
                replace HA2 := Lib.hid (Nat.le_trans HA2.out hb.size)
                replace HM := Lib.hid (HM.out.on hb)
                clear q hb
                have hX := HX.out S3 HW3.out.1
                have x0 := hX.cell 0
                have x1 := hX.cell 1
                have x2 := hX.cell 2
                have x3 := hX.cell 3
                simp at x0 x1 x2 x3
                clear hX
                have q := set_any m l x S3 HM.out.reads HRI.out (by have := HF.out.2.2.2.2.1; omega) HF.out.2.1
                simp only [HE2.out.2.2.1] at q
                go_wp2_with fail
                refine q.mono ?_
                rintro e S4 ⟨a, rfl, ha, hb⟩
                have K4 := Lib.hid hb
                have HW4 := Lib.hid (And.intro (HW3.out.1.trans (hb.mono HW3.out.2)) (Nat.le_trans HW3.out.2 hb.size))
                have Ha := Lib.hid (InI.of (show OwnI _ _ _ _ from ha))
                clear ha x0 x1 x2 x3
                replace HM := Lib.hid (HM.out.on hb)
                clear q hb
                have q := del_any m l key S4 HM.out.reads HRI.out (by have := HF.out.2.2.2.2.1; omega) HF.out.2.2.1
                simp only [HE2.out.2.2.2.1] at q
                go_wp2_with fail
                refine q.mono ?_
                rintro e S5 ⟨c, rfl, hc, hb⟩
                have K5 := Lib.hid hb
                have HW5 := Lib.hid (And.intro (HW4.out.1.trans (hb.mono HW4.out.2)) (Nat.le_trans HW4.out.2 hb.size))
                have Hc := Lib.hid (InI.of (show OwnI _ _ _ _ from hc))
                replace Ha := Lib.hid (Ha.out.on hb)
                clear hc
                replace HM := Lib.hid (HM.out.on hb)
                clear q hb
                have q := split_any m l S5 HM.out.reads HR.out.2.1 HF.out.2.2.2.1 (by have := HF.out.2.2.2.2.1; omega) HF.out.2.2.1
                simp only [HE2.out.2.2.2.2.1, HE2.out.2.2.2.2.2] at q
                go_wp2_with fail
                refine q.mono ?_
                rintro e S6 ⟨y, z, rfl, hy, hz, hyz, hb⟩
                have K6 := Lib.hid hb
                have HW6 := Lib.hid (And.intro (HW5.out.1.trans (hb.mono HW5.out.2)) (Nat.le_trans HW5.out.2 hb.size))
                have Hy := Lib.hid (InI.of (show OwnI _ _ _ _ from hy))
                have Hz := Lib.hid (InI.of (show OwnI _ _ _ _ from hz))
                have HYZ := Lib.hid hyz
                replace Ha := Lib.hid (Ha.out.on hb)
                replace Hc := Lib.hid (Hc.out.on hb)
                clear hy hz hyz
                replace HM := Lib.hid (HM.out.on hb)
                clear q hb
                have q := refSplit_any v0 l S6 (HR0.out _ HW6.out.1) HF.out.1 (by have := HF.out.2.2.2.2.1; omega) (by have := HF.out.2.2.2.1; omega)
                simp only [HE2.out.2.2.2.2.1, HE2.out.2.2.2.2.2] at q
                go_wp2_with fail
                refine q.mono ?_
                rintro e S7 ⟨p, q', rfl, hp, hq, hb⟩
                have K7 := Lib.hid hb
                have HW7 := Lib.hid (And.intro (HW6.out.1.trans (hb.mono HW6.out.2)) (Nat.le_trans HW6.out.2 hb.size))
                have Hp := Lib.hid (InI.of hp)
                have Hq := Lib.hid (InI.of hq)
                replace Ha := Lib.hid (Ha.out.on hb)
                replace Hc := Lib.hid (Hc.out.on hb)
                replace Hy := Lib.hid (Hy.out.on hb)
                replace Hz := Lib.hid (Hz.out.on hb)
                clear hp hq
                replace HM := Lib.hid (HM.out.on hb)
                clear q hb
                have s4 := K4.out.size
                have s5 := K5.out.size
                have s6 := K6.out.size
                have s7 := K7.out.size
                have hb3 : Below S3.heap.size S3 S7 := by
                  have c6 := K7.out
                  have c5 := K6.out.trans (c6.mono s6)
                  have c4 := K5.out.trans (c5.mono s5)
                  exact K4.out.trans (c4.mono s4)
                have hRR : ∀ q ∈ [(a, AL), (c, CL), (y, YL), (z, ZL)], InI S3.heap.size S6.heap.size S7 q.1 q.2 := fun q hq => by
                  simp only [List.mem_cons, List.not_mem_nil, or_false] at hq
                  rcases hq with rfl | rfl | rfl | rfl
                  · exact Ha.out.wide (Nat.le_refl _) (by omega)
                  · exact Hc.out.wide (by omega) (by omega)
                  · exact Hy.out.wide (by omega) (Nat.le_refl _)
                  · exact Hz.out.wide (by omega) (Nat.le_refl _)
                have hap : [(a, AL), (c, CL), (y, YL), (z, ZL)].Pairwise (fun a b : Value × List Itm => ∀ g, a.1.ownBlock = some g → b.1.ownBlock ≠ some g) := by
                  have ba := Ha.out.2
                  have bc := Hc.out.2
                  have by_ := Hy.out.2
                  have bz := Hz.out.2
                  refine List.pairwise_cons.2 ⟨fun q hq g hg hg' => ?_, List.pairwise_cons.2 ⟨fun q hq g hg hg' => ?_, List.pairwise_cons.2 ⟨fun q hq g hg => ?_, List.pairwise_cons.2 ⟨fun q hq => by simp at hq, List.Pairwise.nil⟩⟩⟩⟩
                  · have := ba g hg
                    simp only [List.mem_cons, List.not_mem_nil, or_false] at hq
                    rcases hq with rfl | rfl | rfl
                    · have := bc g hg'; omega
                    · have := by_ g hg'; omega
                    · have := bz g hg'; omega
                  · have := bc g hg
                    simp only [List.mem_cons, List.not_mem_nil, or_false] at hq
                    rcases hq with rfl | rfl
                    · have := by_ g hg'; omega
                    · have := bz g hg'; omega
                  · simp only [List.mem_cons, List.not_mem_nil, or_false] at hq
                    subst hq
                    exact HYZ.out g hg
                obtain ⟨hv', hc', L, F, hP, hLn, hLx, hF⟩ := HB3.out.pend hb3 (show S3.heap.size ≤ S6.heap.size by omega) HA2.out hRR hap
                have HL := Lib.hid (And.intro hLn (And.intro hLx (And.intro hF (And.intro HW7.out (Nat.le_trans HA2.out hb3.size)))))
                have hL11 : L.length ≤ 10 := by have := HG.out; omega
                have HL11 := Lib.hid hL11
                have HP0 := Lib.hid hP
                clear hP hLn hLx hF hL11 hb3 hRR hap s4 s5 s6 s7 Ha Hc Hy Hz HYZ HB3
                have q := keep_any HP0.out (by have := HL11.out; (try simp only [List.length_append, List.length_singleton]); omega) (by have := HLEN.out.1; omega)
                go_wp2_with fail
                refine q.mono ?_
                rintro e C1 ⟨rfl, hv1, hc1, ca, hP⟩
                have HP1 := Lib.hid hP
                clear q hP HP0
                have q := keep_any HP1.out (by have := HL11.out; (try simp only [List.length_append, List.length_singleton]); omega) (by have := HLEN.out.2.1; omega)
                go_wp2_with fail
                refine q.mono ?_
                rintro e C2 ⟨rfl, hv2, hc2, cc, hP⟩
                have HP2 := Lib.hid hP
                clear q hP HP1
                have q := keep_any HP2.out (by have := HL11.out; (try simp only [List.length_append, List.length_singleton]); omega) (by have := HLEN.out.2.2.1; omega)
                go_wp2_with fail
                refine q.mono ?_
                rintro e C3 ⟨rfl, hv3, hc3, cy, hP⟩
                have HP3 := Lib.hid hP
                clear q hP HP2
                have q := keep_any HP3.out (by have := HL11.out; (try simp only [List.length_append, List.length_singleton]); omega) (by have := HLEN.out.2.2.2; omega)
                go_wp2_with fail
                refine q.mono ?_
                rintro e C4 ⟨rfl, hv4, hc4, cz, hP⟩
                have HP4 := Lib.hid hP
                clear q hP HP3
                have hxs : ∀ e ∈ L ++ [⟨a, ca, AL⟩] ++ [⟨c, cc, CL⟩] ++ [⟨y, cy, YL⟩] ++ [⟨z, cz, ZL⟩], e.xs.length ≤ 900000 := fun e he => by
                  simp only [List.mem_append, List.mem_singleton] at he
                  rcases he with (((he | rfl) | rfl) | rfl) | rfl
                  · exact HL.out.2.1 e he
                  · exact HLEN.out.1
                  · exact HLEN.out.2.1
                  · exact HLEN.out.2.2.1
                  · exact HLEN.out.2.2.2
                have HBE := Lib.hid (Bk.of (n := 5 * (k + 1)) (lo := wr.heap.size) (hi := A1.heap.size) HP4.out (by have := HL.out.1; simp only [List.length_append, List.length_singleton]; omega) hxs (fun g hg => ⟨(HL.out.2.2.1 g hg).1, (HL.out.2.2.1 g hg).2.1⟩) HL.out.2.2.2.1.1 HL.out.2.2.2.1.2 HL.out.2.2.2.2)
                replace HM := Lib.hid (HM.out.kept HP4.out.kept (fun g hg => (HL.out.2.2.1 g hg).2.1))
                replace Hp := Lib.hid (Hp.out.kept HP4.out.kept (fun g hg => .inl (HL.out.2.2.1 g hg).2.2))
                replace Hq := Lib.hid (Hq.out.kept HP4.out.kept (fun g hg => .inl (HL.out.2.2.1 g hg).2.2))
                have Ha := Lib.hid (InI.of (pend_row HP4.out (e := ⟨a, ca, AL⟩) (by simp)))
                have Hc := Lib.hid (InI.of (pend_row HP4.out (e := ⟨c, cc, CL⟩) (by simp)))
                have Hy := Lib.hid (InI.of (pend_row HP4.out (e := ⟨y, cy, YL⟩) (by simp)))
                have Hz := Lib.hid (InI.of (pend_row HP4.out (e := ⟨z, cz, ZL⟩) (by simp)))
                clear HP4 HL HL11 hxs HW0 HW1 HW2 HW3 HW4 HW5 HW6 HW7 K1 K2 K3 K4 K5 K6 K7
                have HW0 := Lib.hid HBE.out.below
                have hX := HX.out C4 HW0.out.1
                have x0 := hX.cell 0
                have x1 := hX.cell 1
                have x2 := hX.cell 2
                have x3 := hX.cell 3
                simp at x0 x1 x2 x3
                clear hX
                have q := refSet_any v0 l x C4 (HR0.out _ HW0.out.1) (fun y hy => (HR.out.2.1 y hy).1) HR.out.2.2.1.1 (by have := HF.out.2.2.2.2.1; omega)
                simp only [HE2.out.2.2.1] at q
                go_wp2_with fail
                refine q.mono ?_
                rintro e D1 ⟨t, rfl, ht, hb⟩
                have K1 := Lib.hid hb
                have HW1 := Lib.hid (And.intro (HW0.out.1.trans (hb.mono HW0.out.2)) (Nat.le_trans HW0.out.2 hb.size))
                have Ht := Lib.hid (show OwnI _ _ _ _ from ht)
                clear ht x0 x1 x2 x3
                replace HBE := Lib.hid (HBE.out.on hb)
                replace Ha := Lib.hid (Ha.out.on hb)
                replace Hc := Lib.hid (Hc.out.on hb)
                replace Hy := Lib.hid (Hy.out.on hb)
                replace Hz := Lib.hid (Hz.out.on hb)
                replace Hp := Lib.hid (Hp.out.on hb)
                replace Hq := Lib.hid (Hq.out.on hb)
                replace HM := Lib.hid (HM.out.on hb)
                clear q hb
                have q := sameItems_any a t AL D1 Ha.out.1.reads Ht.out.reads (by have := HLEN.out.1; omega)
                go_wp2_with fail
                refine q.mono ?_
                rintro e D2 ⟨rfl, hb⟩
                have K2 := Lib.hid hb
                have HW2 := Lib.hid (And.intro (HW1.out.1.trans (hb.mono HW1.out.2)) (Nat.le_trans HW1.out.2 hb.size))
                replace HBE := Lib.hid (HBE.out.on hb)
                replace Ha := Lib.hid (Ha.out.on hb)
                replace Hc := Lib.hid (Hc.out.on hb)
                replace Hy := Lib.hid (Hy.out.on hb)
                replace Hz := Lib.hid (Hz.out.on hb)
                replace Hp := Lib.hid (Hp.out.on hb)
                replace Hq := Lib.hid (Hq.out.on hb)
                replace HM := Lib.hid (HM.out.on hb)
                clear q hb
                have q := refDel_any v0 l key D2 (HR0.out _ HW2.out.1) (fun y hy => (HR.out.2.1 y hy).1) HR.out.2.2.2.2 (by have := HF.out.2.2.2.2.1; omega)
                simp only [HE2.out.2.2.2.1] at q
                go_wp2_with fail
                refine q.mono ?_
                rintro e D3 ⟨t2, rfl, ht, hb⟩
                have K3 := Lib.hid hb
                have HW3 := Lib.hid (And.intro (HW2.out.1.trans (hb.mono HW2.out.2)) (Nat.le_trans HW2.out.2 hb.size))
                have Ht2 := Lib.hid (show OwnI _ _ _ _ from ht)
                clear ht
                replace HBE := Lib.hid (HBE.out.on hb)
                replace Ha := Lib.hid (Ha.out.on hb)
                replace Hc := Lib.hid (Hc.out.on hb)
                replace Hy := Lib.hid (Hy.out.on hb)
                replace Hz := Lib.hid (Hz.out.on hb)
                replace Hp := Lib.hid (Hp.out.on hb)
                replace Hq := Lib.hid (Hq.out.on hb)
                replace HM := Lib.hid (HM.out.on hb)
                clear q hb
                have q := sameItems_any c t2 CL D3 Hc.out.1.reads Ht2.out.reads (by have := HLEN.out.2.1; omega)
                go_wp2_with fail
                refine q.mono ?_
                rintro e D4 ⟨rfl, hb⟩
                have K4 := Lib.hid hb
                have HW4 := Lib.hid (And.intro (HW3.out.1.trans (hb.mono HW3.out.2)) (Nat.le_trans HW3.out.2 hb.size))
                replace HBE := Lib.hid (HBE.out.on hb)
                replace Ha := Lib.hid (Ha.out.on hb)
                replace Hc := Lib.hid (Hc.out.on hb)
                replace Hy := Lib.hid (Hy.out.on hb)
                replace Hz := Lib.hid (Hz.out.on hb)
                replace Hp := Lib.hid (Hp.out.on hb)
                replace Hq := Lib.hid (Hq.out.on hb)
                replace HM := Lib.hid (HM.out.on hb)
                clear q hb
                have q := sameItems_any y p YL D4 Hy.out.1.reads Hp.out.1.reads (by have := HLEN.out.2.2.1; omega)
                go_wp2_with fail
                refine q.mono ?_
                rintro e D5 ⟨rfl, hb⟩
                have K5 := Lib.hid hb
                have HW5 := Lib.hid (And.intro (HW4.out.1.trans (hb.mono HW4.out.2)) (Nat.le_trans HW4.out.2 hb.size))
                replace HBE := Lib.hid (HBE.out.on hb)
                replace Ha := Lib.hid (Ha.out.on hb)
                replace Hc := Lib.hid (Hc.out.on hb)
                replace Hy := Lib.hid (Hy.out.on hb)
                replace Hz := Lib.hid (Hz.out.on hb)
                replace Hp := Lib.hid (Hp.out.on hb)
                replace Hq := Lib.hid (Hq.out.on hb)
                replace HM := Lib.hid (HM.out.on hb)
                clear q hb
                have q := sameItems_any z q' ZL D5 Hz.out.1.reads Hq.out.1.reads (by have := HLEN.out.2.2.2; omega)
                go_wp2_with fail
                refine q.mono ?_
                rintro e D6 ⟨rfl, hb⟩
                have K6 := Lib.hid hb
                have HW6 := Lib.hid (And.intro (HW5.out.1.trans (hb.mono HW5.out.2)) (Nat.le_trans HW5.out.2 hb.size))
                replace HBE := Lib.hid (HBE.out.on hb)
                replace Ha := Lib.hid (Ha.out.on hb)
                replace Hc := Lib.hid (Hc.out.on hb)
                replace Hy := Lib.hid (Hy.out.on hb)
                replace Hz := Lib.hid (Hz.out.on hb)
                replace Hp := Lib.hid (Hp.out.on hb)
                replace Hq := Lib.hid (Hq.out.on hb)
                replace HM := Lib.hid (HM.out.on hb)
                clear q hb
                have q := stays_any _ _ m v0 l D6 HM.out (HR0.out _ HW6.out.1) (by have := HF.out.2.2.2.2.1; omega)
                go_wp2_with fail
                refine q.mono ?_
                rintro e D7 ⟨rfl, hb⟩
                have K7 := Lib.hid hb
                have HW7 := Lib.hid (And.intro (HW6.out.1.trans (hb.mono HW6.out.2)) (Nat.le_trans HW6.out.2 hb.size))
                replace HBE := Lib.hid (HBE.out.on hb)
                replace Ha := Lib.hid (Ha.out.on hb)
                replace Hc := Lib.hid (Hc.out.on hb)
                replace Hy := Lib.hid (Hy.out.on hb)
                replace Hz := Lib.hid (Hz.out.on hb)
                replace Hp := Lib.hid (Hp.out.on hb)
                replace Hq := Lib.hid (Hq.out.on hb)
                replace HM := Lib.hid (HM.out.on hb)
                clear q hb
                go_wp2_with fail
                go_roundg (2 - (k + 1))
                case measure => have := HG.out; omega
                case rel => exact ⟨k + 1, by go_num, by have := HG.out; omega, HBE.out.open_⟩
              · have hd : decide (Rise l) = false := decide_eq_false hrise
                rw [hd]
                clear hd hrise
                go_wp2_with fail
                go_roundg (2 - (k + 1))
                case measure => have := HG.out; omega
                case rel => exact ⟨k + 1, by go_num, by have := HG.out; omega, HB3.out.open_.more (by omega)⟩
            · obtain rfl : k = 2 := by omega
              obtain ⟨hv', hc', L, hB, hlen, hxs, hfoot, hw0, hbase⟩ := HB0.out
              have H1 := Lib.hid (And.intro hB (And.intro hlen (And.intro hxs (And.intro hfoot (And.intro hw0 hbase)))))
              clear hB hlen hxs hfoot hw0 hbase
              go_wp2_with fail
              refine (HAL.out _).mono ?_
              rintro e wa ⟨rfl, hba⟩
              have q := apart_any (H1.out.1.below hba) (by have := H1.out.2.1; omega) H1.out.2.2.1
              have H2 := Lib.hid hba
              clear hba
              go_wp2_with fail
              refine q.mono ?_
              rintro e wb ⟨rfl, hkb⟩
              have H3 := Lib.hid hkb
              clear hkb q
              go_wp2_with fail
              go_ret
              exact ⟨rfl, HBB.out.trans ((H1.out.2.2.2.2.1.trans ((H2.out.mono H1.out.2.2.2.2.2).trans (H3.out.below (Nat.le_trans H1.out.2.2.2.2.2 H2.out.size) (fun g hg => (H1.out.2.2.2.1 g hg).1)))).mono HBB.out.size)⟩
      · clear HX1
        go_wp2_with fail
        refine (HAL.out _).mono ?_
        rintro e wa ⟨rfl, hba⟩
        have HZ := Lib.hid (HBB.out.trans (hba.mono HBB.out.size))
        clear hba
        go_wp2_with fail
        go_ret
        exact ⟨rfl, HZ.out⟩
    · clear HX1
      go_wp2_with fail
      refine (HAL.out _).mono ?_
      rintro e wa ⟨rfl, hba⟩
      have HZ := Lib.hid (HBB.out.trans (hba.mono HBB.out.size))
      clear hba
      go_wp2_with fail
      go_ret
      exact ⟨rfl, HZ.out⟩

set_option maxRecDepth 100000 in
theorem lifted (os : Os) (started : os.Started) (H : Type) (enc : TypeId × Value → H) :
    ReturnsInHanded {} Tryz.checked os 3 .any (Rows.leafTellsSpec.pre6 enc Tryz.prog Tryz.f3 Rows.leafTellsRow.domain false) (Rows.leafTellsSpec.post enc Tryz.prog Tryz.f3 false true false false) := by
  refine returnsInHanded_of_change (C := Tryz.checked) own started (by kernel_rfl) Tryz.func3
    (ChangeSpec.witness6 (enc := enc) (C := Tryz.checked) false ⟨#[], #[.slice none 0 0, .string ByteArray.empty, .string ByteArray.empty, .agg #[.string ByteArray.empty, .string ByteArray.empty, .int .i64 0, .int .i64 0]], []⟩ 8 (by kernel_rfl) (by kernel_rfl) (by kernel_rfl) (by kernel_rfl)) ?_
  intro W base args ds gs before hval0 hW hcnd _
  have hval : ∀ (j : Nat) t v, Tryz.f3.params[j]? = some t → args[j]? = some v → Value.okWide Tryz.prog W .any base t v := hval0
  have hW' := hW
  obtain ⟨p, q, hA0, hV, rfl, hfz, hnd⟩ := hW
  have hA : DataW.TrodAll enc Tryz.prog W 0 (fun _ => true) true Tryz.f3.params.toList args.toList ds p := hA0
  rw [Tryz.params3] at hA hval
  obtain ⟨v0, vs0, d0, ds0, p0, q0, hargs, rfl, rfl, h0, r00⟩ := trodAll_cons hA
  obtain ⟨v1, vs1, d1, ds1, p1, q1, rfl, rfl, rfl, h1, r01⟩ := trodAll_cons r00
  obtain ⟨v2, vs2, d2, ds2, p2, q2, rfl, rfl, rfl, h2, r02⟩ := trodAll_cons r01
  obtain ⟨v3, vs3, d3, ds3, p3, q3, rfl, rfl, rfl, h3, r03⟩ := trodAll_cons r02
  obtain ⟨rfl, rfl, rfl⟩ := trodAll_nil r03
  obtain rfl : args = #[v0, v1, v2, v3] := by cases args; simp_all
  obtain ⟨rfl, rfl⟩ := trodVars_none hV
  obtain ⟨l0, r0, i0, m0⟩ := reads_items (hval 0 22 v0 rfl rfl) h0
  obtain ⟨s1, rfl, rfl, rfl, z1⟩ := Go.ChangeMaps.open_string Tryz.underlying9 (hval 1 9 v1 rfl rfl) h1
  obtain ⟨s2, rfl, rfl, rfl, z2⟩ := Go.ChangeMaps.open_string Tryz.underlying9 (hval 2 9 v2 rfl rfl) h2
  obtain ⟨x3, rfl, i3⟩ := open_item (hval 3 24 v3 rfl rfl) h3
  clear hA0 hval0
  refine (walk W v0 l0 r0 i0 s1 (le_of_maxLen z1) s2 (le_of_maxLen z2) x3 i3).mono fun e W' ⟨he, hb⟩ => ?_
  subst he
  exact ⟨_, rfl, law_post hW' rfl rfl (by kernel_rfl) (by kernel_rfl) hb⟩

theorem said : Rows.LeafTellsSaid :=
  OpenClaim.holds_of_wide 3 Tryz.f3 rfl rfl rfl rfl rfl rfl rfl ⟨rfl, rfl, rfl, rfl, rfl⟩ rfl rfl rfl rfl rfl (by kernel_rfl) Tryz.func3 (by kernel_rfl)
    (of_decide_eq_true (by kernel_rfl)) (by unfold Func.isWrapper; first | (rw [if_pos (by decide +kernel)]; kernel_rfl) | (rw [if_neg (by decide +kernel)]; exact ⟨rfl, rfl⟩))
    (fun os started H enc _ => lifted os started H enc)
end Go.Proofs.YtpfifmjcmpankaaGreat.leafTells
