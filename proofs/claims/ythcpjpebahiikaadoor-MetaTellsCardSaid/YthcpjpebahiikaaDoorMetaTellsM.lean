/-
  MetaTells: every meta as a page, every page as a meta, and which of two is chosen: the program's answers are the document's. For every two metas, page, text, place, byte and number. Conditions: the variables that the row lists are laid as its card says.
-/
import Derived.Test.YthcpjpebahiikaaDoorMg38
import Derived.Test.YthcpjpebahiikaaDoorMg39
import Derived.Test.YthcpjpebahiikaaDoorMg41
namespace Go.Proofs.YthcpjpebahiikaaDoor.metaTells
open Go.RowKit Go.Lib Go.ChangeShapes Go.WideShapes Go.ChangeAt

/-- Both metas stand in their boxes; nothing that was there has turned. -/
def St (w : World) (t r f x t2 r2 f2 x2 : Int) (W : World) : Prop := Has W w.heap.size 23 #[.int .i64 t, .int .i64 r, .int .i64 f, .int .i64 x] ∧ Has W (w.heap.size + 1) 23 #[.int .i64 t2, .int .i64 r2, .int .i64 f2, .int .i64 x2] ∧ Below w.heap.size w W
theorem St.on {w W W' : World} {t r f x t2 r2 f2 x2 : Int} (h : St w t r f x t2 r2 f2 x2 W) (hb : Below W.heap.size W W') : St w t r f x t2 r2 f2 x2 W' :=
  ⟨h.1.below hb h.1.inside, h.2.1.below hb h.2.1.inside, h.2.2.trans (hb.mono h.2.2.size)⟩

set_option maxRecDepth 1000000 in
set_option maxHeartbeats 16000000 in
theorem walk_whole (w : World) (t r f x : Int) (ht : IsInt t) (hr : IsInt r) (hf : IsInt f) (hx : IsInt x) (t2 r2 f2 x2 : Int) (ht2 : IsInt t2) (hr2 : IsInt r2) (hf2 : IsInt f2) (hx2 : IsInt x2) (page : Int) (hpg : IsInt page) (b : ByteArray) (hb : b.size ≤ 3000) (at_ : Int) (by_ : Int) (which : Int) :
    Calls Tryd.prog 3 #[metaV t r f x, metaV t2 r2 f2 x2, .int .i64 page, .string b, .int .i64 at_, .int .i64 by_, .int .i64 which] w fun e w' => e = .returned (.bool true) ∧ Below w.heap.size w w' := by
  have hp1 := fun W => mput_any t r f x W ht hr hf hx
  have hq1 := fun W => refPutMeta_any t r f x W ht hr hf hx
  obtain ⟨T, hT⟩ : ∃ T : ByteArray, (⟨(putB t r f x).toArray⟩ : ByteArray) = T := ⟨_, rfl⟩
  obtain ⟨E1, hE1⟩ : ∃ E, putE t r f x = E := ⟨_, rfl⟩
  rw [hT, hE1] at hp1 hq1
  have HP := Lib.hid (And.intro hp1 (And.intro hq1 (And.intro hT hE1)))
  have g1 : decide ((3000 : Int) < (b.size : Int)) = false := by simp; omega
  unfold metaV at *
  obtain ⟨W0, hW0⟩ : ∃ W0, (w.alloc (.cells #[.int .i64 t, .int .i64 r, .int .i64 f, .int .i64 x] 23)).alloc (.cells #[.int .i64 t2, .int .i64 r2, .int .i64 f2, .int .i64 x2] 23) = W0 := ⟨_, rfl⟩
  have hS0 : St w t r f x t2 r2 f2 x2 W0 := by
    subst hW0
    refine ⟨(Has.made w _ _).alloc _, ?_, ((Below.refl _ _).alloc (Nat.le_refl _) _).alloc (by simp) _⟩
    have := Has.made (w.alloc (.cells #[.int .i64 t, .int .i64 r, .int .i64 f, .int .i64 x] 23)) 23 #[.int .i64 t2, .int .i64 r2, .int .i64 f2, .int .i64 x2]
    simpa using this
  have HS0 := Lib.hid (And.intro hW0 hS0)
  have hc1 := HP.out.1 W0
  rw [← hW0] at hc1
  clear hp1 hq1 hT hE1 hW0 hS0
  go_enter Tryd.func3, Tryd.ntmps3
  go_wp2_with fail
  refine hc1.mono ?_
  rintro e w1 ⟨rfl, hb1⟩
  rw [HS0.out.1] at hb1
  have hS1 := HS0.out.2.on hb1
  have m0 := hS1.1.cell 0
  have m1 := hS1.1.cell 1
  have m2 := hS1.1.cell 2
  have m3 := hS1.1.cell 3
  simp at m0 m1 m2 m3
  have hc2 := HP.out.2.1 w1
  have HS1 := Lib.hid hS1
  clear hc1 hb1 hS1 HS0
  go_wp2_with fail
  refine hc2.mono ?_
  rintro e w2 ⟨rfl, hb2⟩
  have hS2 := HS1.out.on hb2
  have m0 := hS2.1.cell 0
  simp at m0
  have HS2 := Lib.hid hS2
  clear hc2 hb2 hS2 HS1 m1 m2 m3
  have hpl := fun n => (place_any t (w2.drewN n)).mono (fun e w' (h : e = .returned (.int .i64 (t % 2)) ∧ w2.drewN n = w') => (⟨h.1, h.2.symm⟩ : e = .returned (.int .i64 (t % 2)) ∧ w' = w2.drewN n))
  have hrp := fun n => (refPlace_any t (w2.drewN n)).mono (fun e w' (h : e = .returned (.int .i64 (t % 2)) ∧ w2.drewN n = w') => (⟨h.1, h.2.symm⟩ : e = .returned (.int .i64 (t % 2)) ∧ w' = w2.drewN n))
  go_wp2_with fail
  go_quiet (first | (go_at_call 7; exact Calls.quiet_of_same (hpl _)) | (go_at_call 8; exact Calls.quiet_of_same (hrp _)))
  have hS3 : St w t r f x t2 r2 f2 x2 (w2.drewN nq) := HS2.out.on ⟨rfl, rfl, rfl, Nat.le_refl _, fun _ _ => rfl⟩
  have HS3 := Lib.hid hS3
  clear hpl hrp hS3 HS2
  generalize w2.drewN nq = w3 at *
  have hand := i64_and1 which
  by_cases hw : which % 2 = 0
  · have e1 : (which % 2 == 0) = true := by simpa using hw
    by_cases hz : T.size = 256
    · have e2 : ((T.size : Int) == 256) = true := by rw [hz]; rfl
      obtain ⟨i, hai⟩ : ∃ i : Nat, at_ % 256 = i := ⟨(at_ % 256).toNat, by omega⟩
      have hi : i < T.size := by omega
      have hand2 : bits .and .i64 at_ 255 = (i : Int) := by rw [i64_and255, hai]
      obtain ⟨d, hd, -⟩ := xor_byte (T.data[i]'hi) by_
      have HD := Lib.hid hd
      have hcv := Lib.run_convert_string_bytes (P := Tryd.prog) w3 9 29 5 T (u := .string) Tryd.underlying9 Tryd.underlying29 Tryd.underlying5
      have hcell := bytesWorld_cell w3 5 T i hi
      have hfree : (bytesWorld w3 5 T).frozen? ⟨w3.heap.size, i, none⟩ = false := by
        have h := bytesWorld_at_new w3 5 T
        have hz2 : T.size ≤ (bytesCells w3 5 T).size := by
          unfold bytesCells
          simp
        simp [World.frozen?, h]
        omega
      obtain ⟨hbM, hzM, hcM⟩ := made (w := w3) (d := d) hi
      have hiX : (i : Int) < 256 := by omega
      have hlen : (T.size : Int) = 256 := by omega
      rw [hz] at hcv
      have HM := Lib.hid (And.intro hbM (And.intro hzM hcM))
      have HCE := Lib.hid hcell
      clear hbM hzM hcM hd hai
      go_wp2_with fail
      have e4 : T.data[i]?.getD 0 = T.data[i]'hi := by rw [Array.getElem?_eq_getElem hi]; rfl
      rw [e4, HD.out]
      obtain ⟨hbM, hzM, hcM⟩ := HM.out
      have hconv : (convert 29 9 (.slice (some ⟨w3.heap.size, 0, none⟩) 256 (grownCap w3 256 0 5))).run Tryd.prog ((bytesWorld w3 5 T).setCell ⟨w3.heap.size, i, none⟩ (.int .u8 (d.toNat : Int))) = .ok (.string (strOfNums ((T.data.toList.set i d).map fun c => (c.toNat : Int)))) ((bytesWorld w3 5 T).setCell ⟨w3.heap.size, i, none⟩ (.int .u8 (d.toNat : Int))) := by
        have h := run_convert_bytes_arg ((bytesWorld w3 5 T).setCell ⟨w3.heap.size, i, none⟩ (.int .u8 (d.toNat : Int))) 29 5 Tryd.underlying29 Tryd.underlying5 w3.heap.size 0 256 (grownCap w3 256 0 5) ((T.data.toList.set i d).map fun c => (c.toNat : Int)) (by simp; omega) (fun j hj => hcM j (by omega))
        exact h 9 Tryd.underlying9
      generalize strOfNums ((T.data.toList.set i d).map fun c => (c.toNat : Int)) = Tc at *
      have HS6 := Lib.hid (HS3.out.on hbM)
      clear hbM hcM hcell hfree hcv hzM HCE HM HS3
      generalize (bytesWorld w3 5 T).setCell ⟨w3.heap.size, i, none⟩ (.int .u8 (d.toNat : Int)) = w6 at *
      rw [hconv]
      clear hconv hand2 hand HD hlen hiX
      have hg4 := get_any page Tc w6
      have hr4 := fun W' => refGetMeta_any page Tc W' hpg
      obtain ⟨v0, h0⟩ : ∃ v, getN page Tc.data.toList 0 = v := ⟨_, rfl⟩
      obtain ⟨v1, h1⟩ : ∃ v, getN page Tc.data.toList 1 = v := ⟨_, rfl⟩
      obtain ⟨v2, h2⟩ : ∃ v, getN page Tc.data.toList 2 = v := ⟨_, rfl⟩
      obtain ⟨v3, h3⟩ : ∃ v, getN page Tc.data.toList 3 = v := ⟨_, rfl⟩
      obtain ⟨Eg, hEg⟩ : ∃ v, getE page Tc.data.toList = v := ⟨_, rfl⟩
      unfold getV metaV at hg4 hr4
      simp only [h0, h1, h2, h3, hEg] at hg4 hr4
      have HR4 := Lib.hid hr4
      clear h0 h1 h2 h3 hEg hr4
      go_wp2_with fail
      refine hg4.mono ?_
      rintro e w14 ⟨rfl, hb4⟩
      have hS4 := (HS6.out.on hb4).on ((Below.refl _ w14).alloc (Nat.le_refl _) (.cells #[.int .i64 v0, .int .i64 v1, .int .i64 v2, .int .i64 v3] 23))
      have hX4 := Has.made w14 23 #[.int .i64 v0, .int .i64 v1, .int .i64 v2, .int .i64 v3]
      have hc5 := HR4.out (w14.alloc (.cells #[.int .i64 v0, .int .i64 v1, .int .i64 v2, .int .i64 v3] 23))
      have HS4 := Lib.hid (And.intro hS4 hX4)
      clear hg4 hb4 hS4 hX4 HR4 HS6
      go_wp2_with fail
      refine hc5.mono ?_
      rintro e w15 ⟨rfl, hb5⟩
      have hS5 := (HS4.out.1.on hb5).on ((Below.refl _ w15).alloc (Nat.le_refl _) (.cells #[.int .i64 v0, .int .i64 v1, .int .i64 v2, .int .i64 v3] 23))
      have hX5 := (HS4.out.2.below hb5 HS4.out.2.inside).alloc (.cells #[.int .i64 v0, .int .i64 v1, .int .i64 v2, .int .i64 v3] 23)
      obtain ⟨⟨l0, l1, l2, l3⟩, -⟩ := hX5.four
      have HS5 := Lib.hid hS5
      clear hc5 hb5 hS5 hX5 HS4
      obtain ⟨W5, hW5⟩ : ∃ W5, w15.alloc (.cells #[.int .i64 v0, .int .i64 v1, .int .i64 v2, .int .i64 v3] 23) = W5 := ⟨_, rfl⟩
      have hnw := new_ok 2 W5 (by omega) (by omega)
      rw [← hW5] at hnw
      have HW5 := Lib.hid hW5
      clear hW5
      go_wp2_with fail
      refine hnw.mono ?_
      rintro e w16 ⟨rfl, hd6, hb6⟩
      rw [HW5.out] at hd6 hb6
      rw [HW5.out]
      obtain ⟨B, hB⟩ : ∃ B, W5.heap.size = B := ⟨_, rfl⟩
      rw [HW5.out] at HS5
      rw [hB] at hd6 hb6 ⊢
      have hbo := both_new (B := B) (w := W5) hd6 (by simp) hb6 (by have := hb6.size; omega)
      have hrn := rnew5 w16
      have HBO := Lib.hid hbo
      have HB := Lib.hid hB
      clear hnw hd6 hb6 hbo hB HW5 l0 l1 l2 l3
      go_wp2_with fail
      refine hrn.mono ?_
      rintro e w17 ⟨rfl, rfl⟩
      clear hrn
      obtain ⟨q, hq⟩ : ∃ q, w16.heap.size = q := ⟨_, rfl⟩
      have hbo := HBO.out
      rw [hq] at hbo ⊢
      generalize w16.alloc (.cells (rdV (.slice none 0 0) (.slice none 0 0)) 65) = w17 at *
      have HBO2 := Lib.hid hbo
      clear HBO hbo hq
      obtain ⟨k1, hk1⟩ : ∃ k : Nat, (which / 2) % 2 = k := ⟨((which / 2) % 2).toNat, by omega⟩
      have ha1 := i64_and1 (which / 2)
      rw [hk1] at ha1
      have hk1b : k1 ≤ 1 := by omega
      have hk2 : IntKind.i64.wrap (2 - (k1 : Int)) = ((2 - k1 : Nat) : Int) := by rw [IntWalk.i64_in _ (by omega)]; omega
      obtain ⟨k, hk⟩ : ∃ k, 2 - k1 = k := ⟨_, rfl⟩
      rw [hk] at hk2
      have hkb : k ≤ 2 ∧ 1 ≤ k := by omega
      have hgd := both_grow_d HBO2.out k
      rw [(grown5 k hkb.1).1, (grown5 k hkb.1).2] at hgd
      clear HBO2
      go_wp2_with fail
      refine hgd.mono ?_
      rintro e w18 ⟨rfl, hbo⟩
      have hgr := both_grow_r hbo k hkb.1 hkb.2
      clear hgd hbo
      go_wp2_with fail
      refine hgr.mono ?_
      rintro e w19 ⟨rfl, hbo⟩
      have hsim := Sim.new hkb.1
      have hll : 1 ≤ (List.replicate k blank).length := by simp; exact hkb.2
      generalize longer (newS 2) k = s5 at *
      generalize List.replicate k blank = Ls at *
      have HBO := Lib.hid (And.intro hbo (And.intro hsim hll))
      clear hgr hbo hsim hll ha1 hk2 hk1b hk1 hkb hk
      obtain ⟨k3, hk3⟩ : ∃ k : Nat, (which / 4) % 2 = k := ⟨((which / 4) % 2).toNat, by omega⟩
      have ha3 := i64_and1 (which / 4)
      rw [hk3] at ha3
      have hk3b : k3 ≤ 1 := by omega
      by_cases hz3 : Tc.size = 256
      · have e3 : ((Tc.size : Int) == 256) = true := by rw [hz3]; rfl
        have hwd := both_write_d HBO.out.1 k3 Tc (by have := HBO.out.2.1.cap.1; omega)
        obtain ⟨f1, f2⟩ := HBO.out.2.1.write (by simp) k3 Tc hz3
        have hwl := wrTo_len Ls [] k3 Tc
        rw [f1] at hwd
        obtain ⟨Ew, hEw⟩ : ∃ Ew : Int, (if k3 < Ls.length then 0 else 3) = Ew := ⟨_, rfl⟩
        rw [hEw] at hwd
        have HEw := Lib.hid hEw
        clear hEw
        have HF := Lib.hid (And.intro f2 (And.intro hwl HBO.out.2.2))
        clear f1 f2 hwl HBO
        go_wp2_with fail
        refine hwd.mono ?_
        rintro e w20 ⟨rfl, hbo⟩
        have hwr := both_write_r hbo (by simp) k3 hk3b Tc hz3
        rw [HEw.out] at hwr
        clear hwd hbo
        go_wp2_with fail
        refine hwr.mono ?_
        rintro e w21 ⟨rfl, hbo⟩
        obtain ⟨hsim, hwl, hll⟩ := HF.out
        generalize writeS s5 (k3 : Int) Tc = s6 at *
        generalize wrTo Ls [] k3 Tc = Ws6 at *
        have HBO := Lib.hid (And.intro hbo (And.intro hsim (And.intro hll (show Ws6.length ≤ 1 by simpa using hwl))))
        clear hwr hbo HF hsim hwl hll
        have hSn := HS5.out.on (show Below W5.heap.size W5 w21 by rw [HB.out]; exact HBO.out.1.out)
        obtain ⟨⟨n0, n1, n2, n3⟩, -⟩ := hSn.2.1.four
        have hpm := refPutMeta_any t2 r2 f2 x2 w21 ht2 hr2 hf2 hx2
        unfold metaV at hpm
        by_cases hok : MetaOK t2 r2 f2 x2
        · rw [putB, putE, if_pos hok, if_pos hok] at hpm
          have hmB : (⟨(mpage t2.toNat r2.toNat f2.toNat x2.toNat).toArray⟩ : ByteArray) = mB t2 r2 f2 x2 := rfl
          rw [hmB] at hpm
          clear hSn
          go_wp2_with fail
          refine hpm.mono ?_
          rintro e w22 ⟨rfl, hb22⟩
          have hbo := HBO.out.1.below hb22
          have hSn := HS5.out.on (show Below W5.heap.size W5 w22 by rw [HB.out]; exact hbo.out)
          obtain ⟨⟨n0, n1, n2, n3⟩, -⟩ := hSn.2.1.four
          obtain ⟨k4, hk4⟩ : ∃ k : Nat, t2 % 2 = k := ⟨(t2 % 2).toNat, by omega⟩
          have hk4b : k4 ≤ 1 := by omega
          have hmw := both_mwrite_d hbo (by have := HBO.out.2.1.cap.1; omega) t2 r2 f2 x2 ht2 hr2 hf2 hx2 hok
          obtain ⟨f1, f2'⟩ := HBO.out.2.1.write (by have := HBO.out.2.2.2; omega) k4 (mB t2 r2 f2 x2) (mB_size _ _ _ _)
          obtain ⟨Ei, hEi⟩ : ∃ Ei : Int, (if k4 < Ls.length then 0 else 3) = Ei := ⟨_, rfl⟩
          rw [hk4, f1, hEi] at hmw
          have HEi := Lib.hid hEi
          clear hEi
          unfold metaV at hmw
          have hz4 := mB_size t2 r2 f2 x2
          have HK4 := Lib.hid (And.intro hk4 (And.intro f2' hz4))
          clear hpm hb22 hSn hbo hmB f1 f2' hz4
          generalize mB t2 r2 f2 x2 = U at *
          go_wp2_with fail
          refine hmw.mono ?_
          rintro e w23 ⟨rfl, hbo⟩
          have hSn := HS5.out.on (show Below W5.heap.size W5 w23 by rw [HB.out]; exact hbo.out)
          obtain ⟨⟨n0, n1, n2, n3⟩, -⟩ := hSn.2.1.four
          have hrp := refPlace_any t2 w23
          rw [HK4.out.1] at hrp
          have hwr := both_write_r hbo HBO.out.2.2.2 k4 hk4b U HK4.out.2.2
          rw [HEi.out] at hwr
          clear hmw hbo hSn hk4
          go_wp2_with fail
          refine hrp.mono ?_
          rintro e w' ⟨rfl, rfl⟩
          clear hrp
          go_wp2_with fail
          refine hwr.mono ?_
          rintro e w24 ⟨rfl, hbo⟩
          have hsim7 := HK4.out.2.1
          generalize writeS _ (k4 : Int) U = s7 at *
          generalize wrTo Ls _ k4 U = Ws7 at *
          have HB7 := Lib.hid (And.intro hbo (And.intro hsim7 HBO.out.2.2.1))
          clear hwr hbo hsim7
          have hcd := both_choose_d HB7.out.1
          have hch := HB7.out.2.1.choose
          rw [hch.1, hch.2] at hcd
          have hcr := fun W' (hb : Both B W5 B s7 q Ls Ws7 W') => both_choose_r hb HB7.out.2.2
          obtain ⟨Ec, hEc⟩ : ∃ E, choE (rdE Ls 0) (rdE Ls 1) (rdB Ls Ws7 0).data.toList (rdB Ls Ws7 1).data.toList = E := ⟨_, rfl⟩
          unfold choV metaV at hcd hcr
          obtain ⟨c0, hc0⟩ : ∃ c, choN (rdE Ls 0) (rdE Ls 1) (rdB Ls Ws7 0).data.toList (rdB Ls Ws7 1).data.toList 0 = c := ⟨_, rfl⟩
          obtain ⟨c1, hc1⟩ : ∃ c, choN (rdE Ls 0) (rdE Ls 1) (rdB Ls Ws7 0).data.toList (rdB Ls Ws7 1).data.toList 1 = c := ⟨_, rfl⟩
          obtain ⟨c2, hc2⟩ : ∃ c, choN (rdE Ls 0) (rdE Ls 1) (rdB Ls Ws7 0).data.toList (rdB Ls Ws7 1).data.toList 2 = c := ⟨_, rfl⟩
          obtain ⟨c3, hc3⟩ : ∃ c, choN (rdE Ls 0) (rdE Ls 1) (rdB Ls Ws7 0).data.toList (rdB Ls Ws7 1).data.toList 3 = c := ⟨_, rfl⟩
          simp only [hEc, hc0, hc1, hc2, hc3] at hcd hcr
          have HCR := Lib.hid hcr
          clear hch hcr hEc hc0 hc1 hc2 hc3
          go_wp2_with fail
          refine hcd.mono ?_
          rintro e w25 ⟨rfl, hbo, -⟩
          have hbo := hbo.below ((Below.refl _ w25).alloc (Nat.le_refl _) (.cells #[.int .i64 c0, .int .i64 c1, .int .i64 c2, .int .i64 c3] 23))
          have hX := Has.made w25 23 #[.int .i64 c0, .int .i64 c1, .int .i64 c2, .int .i64 c3]
          have hcr := HCR.out _ hbo
          have HX := Lib.hid (And.intro hX hbo)
          clear hcd hbo hX HCR HB7
          go_wp2_with fail
          refine hcr.mono ?_
          rintro e w26 ⟨rfl, hbo, hb26⟩
          have hX6 := (HX.out.1.below hb26 HX.out.1.inside).alloc (.cells #[.int .i64 c0, .int .i64 c1, .int .i64 c2, .int .i64 c3] 23)
          have hY6 := Has.made w26 23 #[.int .i64 c0, .int .i64 c1, .int .i64 c2, .int .i64 c3]
          have hbo := hbo.below ((Below.refl _ w26).alloc (Nat.le_refl _) (.cells #[.int .i64 c0, .int .i64 c1, .int .i64 c2, .int .i64 c3] 23))
          have hcn := choose_nil (w26.alloc (.cells #[.int .i64 c0, .int .i64 c1, .int .i64 c2, .int .i64 c3] 23))
          unfold metaV at hcn
          have H6 := Lib.hid (And.intro hX6 (And.intro hY6 hbo))
          clear hcr hbo hX6 hY6 hb26 HX
          go_wp2_with fail
          refine hcn.mono ?_
          rintro e w27 ⟨rfl, hb27⟩
          have hX7 := (H6.out.1.below hb27 H6.out.1.inside).alloc (.cells #[.int .i64 0, .int .i64 0, .int .i64 0, .int .i64 0] 23)
          have hY7 := (H6.out.2.1.below hb27 H6.out.2.1.inside).alloc (.cells #[.int .i64 0, .int .i64 0, .int .i64 0, .int .i64 0] 23)
          have hZ7 := Has.made w27 23 #[.int .i64 0, .int .i64 0, .int .i64 0, .int .i64 0]
          have hbo := (H6.out.2.2.below hb27).below ((Below.refl _ w27).alloc (Nat.le_refl _) (.cells #[.int .i64 0, .int .i64 0, .int .i64 0, .int .i64 0] 23))
          have hal := alive_walk (w27.alloc (.cells #[.int .i64 0, .int .i64 0, .int .i64 0, .int .i64 0] 23))
          have H7 := Lib.hid (And.intro hX7 (And.intro hY7 (And.intro hbo hZ7)))
          clear hcn hX7 hY7 hbo hb27 H6 hZ7
          go_wp2_with fail
          refine hal.mono ?_
          rintro e w28 ⟨rfl, hb28⟩
          have hX8 := H7.out.1.below hb28 H7.out.1.inside
          have hY8 := H7.out.2.1.below hb28 H7.out.2.1.inside
          have hbo := H7.out.2.2.1.below hb28
          have hZ8 := H7.out.2.2.2.below hb28 H7.out.2.2.2.inside
          obtain ⟨⟨z0, z1, z2, z3⟩, -⟩ := hZ8.four
          obtain ⟨⟨l0, l1, l2, l3⟩, -⟩ := hX8.four
          obtain ⟨⟨y0, y1, y2, y3⟩, -⟩ := hY8.four
          have hout := HS5.out.on (show Below W5.heap.size W5 w28 by rw [HB.out]; exact hbo.out)
          have HO := Lib.hid hout.2.2
          clear hal hX8 hY8 hZ8 hbo hout hb28 H7
          go_wp2_with fail
          refine (mwrite_none w28).mono ?_
          rintro e w29 ⟨rfl, hb29⟩
          have HO2 := Lib.hid (HO.out.trans (hb29.mono HO.out.size))
          clear hb29 HO l0 l1 l2 l3 y0 y1 y2 y3 z0 z1 z2 z3
          go_wp2_with fail
          go_ret
          exact ⟨rfl, HO2.out⟩
        · rw [putB, putE, if_neg hok, if_neg hok] at hpm
          clear hSn
          go_wp2_with fail
          refine hpm.mono ?_
          rintro e w22 ⟨rfl, hb22⟩
          have hbo := HBO.out.1.below hb22
          have hSn := HS5.out.on (show Below W5.heap.size W5 w22 by rw [HB.out]; exact hbo.out)
          obtain ⟨⟨n0, n1, n2, n3⟩, -⟩ := hSn.2.1.four
          have hmw := mwrite_bad (.pointer (some ⟨B, 0, none⟩)) t2 r2 f2 x2 w22 ht2 hr2 hf2 hx2 hok
          unfold metaV at hmw
          have HB6 := Lib.hid hbo
          clear hpm hb22 hSn hbo
          go_wp2_with fail
          refine hmw.mono ?_
          rintro e w24 ⟨rfl, hb24⟩
          have hbo := HB6.out.below hb24
          have hsim7 := HBO.out.2.1
          have hll7 := HBO.out.2.2.1
          clear HB6 HBO
          obtain ⟨s7, hs7⟩ : ∃ s7, s6 = s7 := ⟨_, rfl⟩
          obtain ⟨Ws7, hws7⟩ : ∃ Ws7, Ws6 = Ws7 := ⟨_, rfl⟩
          rw [hs7, hws7] at hbo hsim7
          have HB7 := Lib.hid (And.intro hbo (And.intro hsim7 hll7))
          clear hmw hb24 hbo hsim7 hll7 hs7 hws7
          have hcd := both_choose_d HB7.out.1
          have hch := HB7.out.2.1.choose
          rw [hch.1, hch.2] at hcd
          have hcr := fun W' (hb : Both B W5 B s7 q Ls Ws7 W') => both_choose_r hb HB7.out.2.2
          obtain ⟨Ec, hEc⟩ : ∃ E, choE (rdE Ls 0) (rdE Ls 1) (rdB Ls Ws7 0).data.toList (rdB Ls Ws7 1).data.toList = E := ⟨_, rfl⟩
          unfold choV metaV at hcd hcr
          obtain ⟨c0, hc0⟩ : ∃ c, choN (rdE Ls 0) (rdE Ls 1) (rdB Ls Ws7 0).data.toList (rdB Ls Ws7 1).data.toList 0 = c := ⟨_, rfl⟩
          obtain ⟨c1, hc1⟩ : ∃ c, choN (rdE Ls 0) (rdE Ls 1) (rdB Ls Ws7 0).data.toList (rdB Ls Ws7 1).data.toList 1 = c := ⟨_, rfl⟩
          obtain ⟨c2, hc2⟩ : ∃ c, choN (rdE Ls 0) (rdE Ls 1) (rdB Ls Ws7 0).data.toList (rdB Ls Ws7 1).data.toList 2 = c := ⟨_, rfl⟩
          obtain ⟨c3, hc3⟩ : ∃ c, choN (rdE Ls 0) (rdE Ls 1) (rdB Ls Ws7 0).data.toList (rdB Ls Ws7 1).data.toList 3 = c := ⟨_, rfl⟩
          simp only [hEc, hc0, hc1, hc2, hc3] at hcd hcr
          have HCR := Lib.hid hcr
          clear hch hcr hEc hc0 hc1 hc2 hc3
          go_wp2_with fail
          refine hcd.mono ?_
          rintro e w25 ⟨rfl, hbo, -⟩
          have hbo := hbo.below ((Below.refl _ w25).alloc (Nat.le_refl _) (.cells #[.int .i64 c0, .int .i64 c1, .int .i64 c2, .int .i64 c3] 23))
          have hX := Has.made w25 23 #[.int .i64 c0, .int .i64 c1, .int .i64 c2, .int .i64 c3]
          have hcr := HCR.out _ hbo
          have HX := Lib.hid (And.intro hX hbo)
          clear hcd hbo hX HCR HB7
          go_wp2_with fail
          refine hcr.mono ?_
          rintro e w26 ⟨rfl, hbo, hb26⟩
          have hX6 := (HX.out.1.below hb26 HX.out.1.inside).alloc (.cells #[.int .i64 c0, .int .i64 c1, .int .i64 c2, .int .i64 c3] 23)
          have hY6 := Has.made w26 23 #[.int .i64 c0, .int .i64 c1, .int .i64 c2, .int .i64 c3]
          have hbo := hbo.below ((Below.refl _ w26).alloc (Nat.le_refl _) (.cells #[.int .i64 c0, .int .i64 c1, .int .i64 c2, .int .i64 c3] 23))
          have hcn := choose_nil (w26.alloc (.cells #[.int .i64 c0, .int .i64 c1, .int .i64 c2, .int .i64 c3] 23))
          unfold metaV at hcn
          have H6 := Lib.hid (And.intro hX6 (And.intro hY6 hbo))
          clear hcr hbo hX6 hY6 hb26 HX
          go_wp2_with fail
          refine hcn.mono ?_
          rintro e w27 ⟨rfl, hb27⟩
          have hX7 := (H6.out.1.below hb27 H6.out.1.inside).alloc (.cells #[.int .i64 0, .int .i64 0, .int .i64 0, .int .i64 0] 23)
          have hY7 := (H6.out.2.1.below hb27 H6.out.2.1.inside).alloc (.cells #[.int .i64 0, .int .i64 0, .int .i64 0, .int .i64 0] 23)
          have hZ7 := Has.made w27 23 #[.int .i64 0, .int .i64 0, .int .i64 0, .int .i64 0]
          have hbo := (H6.out.2.2.below hb27).below ((Below.refl _ w27).alloc (Nat.le_refl _) (.cells #[.int .i64 0, .int .i64 0, .int .i64 0, .int .i64 0] 23))
          have hal := alive_walk (w27.alloc (.cells #[.int .i64 0, .int .i64 0, .int .i64 0, .int .i64 0] 23))
          have H7 := Lib.hid (And.intro hX7 (And.intro hY7 (And.intro hbo hZ7)))
          clear hcn hX7 hY7 hbo hb27 H6 hZ7
          go_wp2_with fail
          refine hal.mono ?_
          rintro e w28 ⟨rfl, hb28⟩
          have hX8 := H7.out.1.below hb28 H7.out.1.inside
          have hY8 := H7.out.2.1.below hb28 H7.out.2.1.inside
          have hbo := H7.out.2.2.1.below hb28
          have hZ8 := H7.out.2.2.2.below hb28 H7.out.2.2.2.inside
          obtain ⟨⟨z0, z1, z2, z3⟩, -⟩ := hZ8.four
          obtain ⟨⟨l0, l1, l2, l3⟩, -⟩ := hX8.four
          obtain ⟨⟨y0, y1, y2, y3⟩, -⟩ := hY8.four
          have hout := HS5.out.on (show Below W5.heap.size W5 w28 by rw [HB.out]; exact hbo.out)
          have HO := Lib.hid hout.2.2
          clear hal hX8 hY8 hZ8 hbo hout hb28 H7
          go_wp2_with fail
          refine (mwrite_none w28).mono ?_
          rintro e w29 ⟨rfl, hb29⟩
          have HO2 := Lib.hid (HO.out.trans (hb29.mono HO.out.size))
          clear hb29 HO l0 l1 l2 l3 y0 y1 y2 y3 z0 z1 z2 z3
          go_wp2_with fail
          go_ret
          exact ⟨rfl, HO2.out⟩
      · have e3 : ((Tc.size : Int) == 256) = false := by rw [beq_eq_false_iff_ne]; omega
        obtain ⟨hbo, hsim, hll⟩ := HBO.out
        obtain ⟨Ws6, hws⟩ : ∃ Ws6 : List (Int × ByteArray), [] = Ws6 := ⟨_, rfl⟩
        have hwl : Ws6.length ≤ 1 := by rw [← hws]; simp
        rw [hws] at hbo hsim
        have HBO2 := Lib.hid (And.intro hbo (And.intro hsim (And.intro hll hwl)))
        clear hbo hsim hll hwl hws HBO
        have hSn := HS5.out.on (show Below W5.heap.size W5 w19 by rw [HB.out]; exact HBO2.out.1.out)
        obtain ⟨⟨n0, n1, n2, n3⟩, -⟩ := hSn.2.1.four
        have hpm := refPutMeta_any t2 r2 f2 x2 w19 ht2 hr2 hf2 hx2
        unfold metaV at hpm
        by_cases hok : MetaOK t2 r2 f2 x2
        · rw [putB, putE, if_pos hok, if_pos hok] at hpm
          have hmB : (⟨(mpage t2.toNat r2.toNat f2.toNat x2.toNat).toArray⟩ : ByteArray) = mB t2 r2 f2 x2 := rfl
          rw [hmB] at hpm
          clear hSn
          go_wp2_with fail
          refine hpm.mono ?_
          rintro e w22 ⟨rfl, hb22⟩
          have hbo := HBO2.out.1.below hb22
          have hSn := HS5.out.on (show Below W5.heap.size W5 w22 by rw [HB.out]; exact hbo.out)
          obtain ⟨⟨n0, n1, n2, n3⟩, -⟩ := hSn.2.1.four
          obtain ⟨k4, hk4⟩ : ∃ k : Nat, t2 % 2 = k := ⟨(t2 % 2).toNat, by omega⟩
          have hk4b : k4 ≤ 1 := by omega
          have hmw := both_mwrite_d hbo (by have := HBO2.out.2.1.cap.1; omega) t2 r2 f2 x2 ht2 hr2 hf2 hx2 hok
          obtain ⟨f1, f2'⟩ := HBO2.out.2.1.write (by have := HBO2.out.2.2.2; omega) k4 (mB t2 r2 f2 x2) (mB_size _ _ _ _)
          obtain ⟨Ei, hEi⟩ : ∃ Ei : Int, (if k4 < Ls.length then 0 else 3) = Ei := ⟨_, rfl⟩
          rw [hk4, f1, hEi] at hmw
          have HEi := Lib.hid hEi
          clear hEi
          unfold metaV at hmw
          have hz4 := mB_size t2 r2 f2 x2
          have HK4 := Lib.hid (And.intro hk4 (And.intro f2' hz4))
          clear hpm hb22 hSn hbo hmB f1 f2' hz4
          generalize mB t2 r2 f2 x2 = U at *
          go_wp2_with fail
          refine hmw.mono ?_
          rintro e w23 ⟨rfl, hbo⟩
          have hSn := HS5.out.on (show Below W5.heap.size W5 w23 by rw [HB.out]; exact hbo.out)
          obtain ⟨⟨n0, n1, n2, n3⟩, -⟩ := hSn.2.1.four
          have hrp := refPlace_any t2 w23
          rw [HK4.out.1] at hrp
          have hwr := both_write_r hbo HBO2.out.2.2.2 k4 hk4b U HK4.out.2.2
          rw [HEi.out] at hwr
          clear hmw hbo hSn hk4
          go_wp2_with fail
          refine hrp.mono ?_
          rintro e w' ⟨rfl, rfl⟩
          clear hrp
          go_wp2_with fail
          refine hwr.mono ?_
          rintro e w24 ⟨rfl, hbo⟩
          have hsim7 := HK4.out.2.1
          generalize writeS _ (k4 : Int) U = s7 at *
          generalize wrTo Ls _ k4 U = Ws7 at *
          have HB7 := Lib.hid (And.intro hbo (And.intro hsim7 HBO2.out.2.2.1))
          clear hwr hbo hsim7
          have hcd := both_choose_d HB7.out.1
          have hch := HB7.out.2.1.choose
          rw [hch.1, hch.2] at hcd
          have hcr := fun W' (hb : Both B W5 B s7 q Ls Ws7 W') => both_choose_r hb HB7.out.2.2
          obtain ⟨Ec, hEc⟩ : ∃ E, choE (rdE Ls 0) (rdE Ls 1) (rdB Ls Ws7 0).data.toList (rdB Ls Ws7 1).data.toList = E := ⟨_, rfl⟩
          unfold choV metaV at hcd hcr
          obtain ⟨c0, hc0⟩ : ∃ c, choN (rdE Ls 0) (rdE Ls 1) (rdB Ls Ws7 0).data.toList (rdB Ls Ws7 1).data.toList 0 = c := ⟨_, rfl⟩
          obtain ⟨c1, hc1⟩ : ∃ c, choN (rdE Ls 0) (rdE Ls 1) (rdB Ls Ws7 0).data.toList (rdB Ls Ws7 1).data.toList 1 = c := ⟨_, rfl⟩
          obtain ⟨c2, hc2⟩ : ∃ c, choN (rdE Ls 0) (rdE Ls 1) (rdB Ls Ws7 0).data.toList (rdB Ls Ws7 1).data.toList 2 = c := ⟨_, rfl⟩
          obtain ⟨c3, hc3⟩ : ∃ c, choN (rdE Ls 0) (rdE Ls 1) (rdB Ls Ws7 0).data.toList (rdB Ls Ws7 1).data.toList 3 = c := ⟨_, rfl⟩
          simp only [hEc, hc0, hc1, hc2, hc3] at hcd hcr
          have HCR := Lib.hid hcr
          clear hch hcr hEc hc0 hc1 hc2 hc3
          go_wp2_with fail
          refine hcd.mono ?_
          rintro e w25 ⟨rfl, hbo, -⟩
          have hbo := hbo.below ((Below.refl _ w25).alloc (Nat.le_refl _) (.cells #[.int .i64 c0, .int .i64 c1, .int .i64 c2, .int .i64 c3] 23))
          have hX := Has.made w25 23 #[.int .i64 c0, .int .i64 c1, .int .i64 c2, .int .i64 c3]
          have hcr := HCR.out _ hbo
          have HX := Lib.hid (And.intro hX hbo)
          clear hcd hbo hX HCR HB7
          go_wp2_with fail
          refine hcr.mono ?_
          rintro e w26 ⟨rfl, hbo, hb26⟩
          have hX6 := (HX.out.1.below hb26 HX.out.1.inside).alloc (.cells #[.int .i64 c0, .int .i64 c1, .int .i64 c2, .int .i64 c3] 23)
          have hY6 := Has.made w26 23 #[.int .i64 c0, .int .i64 c1, .int .i64 c2, .int .i64 c3]
          have hbo := hbo.below ((Below.refl _ w26).alloc (Nat.le_refl _) (.cells #[.int .i64 c0, .int .i64 c1, .int .i64 c2, .int .i64 c3] 23))
          have hcn := choose_nil (w26.alloc (.cells #[.int .i64 c0, .int .i64 c1, .int .i64 c2, .int .i64 c3] 23))
          unfold metaV at hcn
          have H6 := Lib.hid (And.intro hX6 (And.intro hY6 hbo))
          clear hcr hbo hX6 hY6 hb26 HX
          go_wp2_with fail
          refine hcn.mono ?_
          rintro e w27 ⟨rfl, hb27⟩
          have hX7 := (H6.out.1.below hb27 H6.out.1.inside).alloc (.cells #[.int .i64 0, .int .i64 0, .int .i64 0, .int .i64 0] 23)
          have hY7 := (H6.out.2.1.below hb27 H6.out.2.1.inside).alloc (.cells #[.int .i64 0, .int .i64 0, .int .i64 0, .int .i64 0] 23)
          have hZ7 := Has.made w27 23 #[.int .i64 0, .int .i64 0, .int .i64 0, .int .i64 0]
          have hbo := (H6.out.2.2.below hb27).below ((Below.refl _ w27).alloc (Nat.le_refl _) (.cells #[.int .i64 0, .int .i64 0, .int .i64 0, .int .i64 0] 23))
          have hal := alive_walk (w27.alloc (.cells #[.int .i64 0, .int .i64 0, .int .i64 0, .int .i64 0] 23))
          have H7 := Lib.hid (And.intro hX7 (And.intro hY7 (And.intro hbo hZ7)))
          clear hcn hX7 hY7 hbo hb27 H6 hZ7
          go_wp2_with fail
          refine hal.mono ?_
          rintro e w28 ⟨rfl, hb28⟩
          have hX8 := H7.out.1.below hb28 H7.out.1.inside
          have hY8 := H7.out.2.1.below hb28 H7.out.2.1.inside
          have hbo := H7.out.2.2.1.below hb28
          have hZ8 := H7.out.2.2.2.below hb28 H7.out.2.2.2.inside
          obtain ⟨⟨z0, z1, z2, z3⟩, -⟩ := hZ8.four
          obtain ⟨⟨l0, l1, l2, l3⟩, -⟩ := hX8.four
          obtain ⟨⟨y0, y1, y2, y3⟩, -⟩ := hY8.four
          have hout := HS5.out.on (show Below W5.heap.size W5 w28 by rw [HB.out]; exact hbo.out)
          have HO := Lib.hid hout.2.2
          clear hal hX8 hY8 hZ8 hbo hout hb28 H7
          go_wp2_with fail
          refine (mwrite_none w28).mono ?_
          rintro e w29 ⟨rfl, hb29⟩
          have HO2 := Lib.hid (HO.out.trans (hb29.mono HO.out.size))
          clear hb29 HO l0 l1 l2 l3 y0 y1 y2 y3 z0 z1 z2 z3
          go_wp2_with fail
          go_ret
          exact ⟨rfl, HO2.out⟩
        · rw [putB, putE, if_neg hok, if_neg hok] at hpm
          clear hSn
          go_wp2_with fail
          refine hpm.mono ?_
          rintro e w22 ⟨rfl, hb22⟩
          have hbo := HBO2.out.1.below hb22
          have hSn := HS5.out.on (show Below W5.heap.size W5 w22 by rw [HB.out]; exact hbo.out)
          obtain ⟨⟨n0, n1, n2, n3⟩, -⟩ := hSn.2.1.four
          have hmw := mwrite_bad (.pointer (some ⟨B, 0, none⟩)) t2 r2 f2 x2 w22 ht2 hr2 hf2 hx2 hok
          unfold metaV at hmw
          have HB6 := Lib.hid hbo
          clear hpm hb22 hSn hbo
          go_wp2_with fail
          refine hmw.mono ?_
          rintro e w24 ⟨rfl, hb24⟩
          have hbo := HB6.out.below hb24
          have hsim7 := HBO2.out.2.1
          have hll7 := HBO2.out.2.2.1
          clear HB6 HBO2
          obtain ⟨s7, hs7⟩ : ∃ s7, s5 = s7 := ⟨_, rfl⟩
          obtain ⟨Ws7, hws7⟩ : ∃ Ws7, Ws6 = Ws7 := ⟨_, rfl⟩
          rw [hs7, hws7] at hbo hsim7
          have HB7 := Lib.hid (And.intro hbo (And.intro hsim7 hll7))
          clear hmw hb24 hbo hsim7 hll7 hs7 hws7
          have hcd := both_choose_d HB7.out.1
          have hch := HB7.out.2.1.choose
          rw [hch.1, hch.2] at hcd
          have hcr := fun W' (hb : Both B W5 B s7 q Ls Ws7 W') => both_choose_r hb HB7.out.2.2
          obtain ⟨Ec, hEc⟩ : ∃ E, choE (rdE Ls 0) (rdE Ls 1) (rdB Ls Ws7 0).data.toList (rdB Ls Ws7 1).data.toList = E := ⟨_, rfl⟩
          unfold choV metaV at hcd hcr
          obtain ⟨c0, hc0⟩ : ∃ c, choN (rdE Ls 0) (rdE Ls 1) (rdB Ls Ws7 0).data.toList (rdB Ls Ws7 1).data.toList 0 = c := ⟨_, rfl⟩
          obtain ⟨c1, hc1⟩ : ∃ c, choN (rdE Ls 0) (rdE Ls 1) (rdB Ls Ws7 0).data.toList (rdB Ls Ws7 1).data.toList 1 = c := ⟨_, rfl⟩
          obtain ⟨c2, hc2⟩ : ∃ c, choN (rdE Ls 0) (rdE Ls 1) (rdB Ls Ws7 0).data.toList (rdB Ls Ws7 1).data.toList 2 = c := ⟨_, rfl⟩
          obtain ⟨c3, hc3⟩ : ∃ c, choN (rdE Ls 0) (rdE Ls 1) (rdB Ls Ws7 0).data.toList (rdB Ls Ws7 1).data.toList 3 = c := ⟨_, rfl⟩
          simp only [hEc, hc0, hc1, hc2, hc3] at hcd hcr
          have HCR := Lib.hid hcr
          clear hch hcr hEc hc0 hc1 hc2 hc3
          go_wp2_with fail
          refine hcd.mono ?_
          rintro e w25 ⟨rfl, hbo, -⟩
          have hbo := hbo.below ((Below.refl _ w25).alloc (Nat.le_refl _) (.cells #[.int .i64 c0, .int .i64 c1, .int .i64 c2, .int .i64 c3] 23))
          have hX := Has.made w25 23 #[.int .i64 c0, .int .i64 c1, .int .i64 c2, .int .i64 c3]
          have hcr := HCR.out _ hbo
          have HX := Lib.hid (And.intro hX hbo)
          clear hcd hbo hX HCR HB7
          go_wp2_with fail
          refine hcr.mono ?_
          rintro e w26 ⟨rfl, hbo, hb26⟩
          have hX6 := (HX.out.1.below hb26 HX.out.1.inside).alloc (.cells #[.int .i64 c0, .int .i64 c1, .int .i64 c2, .int .i64 c3] 23)
          have hY6 := Has.made w26 23 #[.int .i64 c0, .int .i64 c1, .int .i64 c2, .int .i64 c3]
          have hbo := hbo.below ((Below.refl _ w26).alloc (Nat.le_refl _) (.cells #[.int .i64 c0, .int .i64 c1, .int .i64 c2, .int .i64 c3] 23))
          have hcn := choose_nil (w26.alloc (.cells #[.int .i64 c0, .int .i64 c1, .int .i64 c2, .int .i64 c3] 23))
          unfold metaV at hcn
          have H6 := Lib.hid (And.intro hX6 (And.intro hY6 hbo))
          clear hcr hbo hX6 hY6 hb26 HX
          go_wp2_with fail
          refine hcn.mono ?_
          rintro e w27 ⟨rfl, hb27⟩
          have hX7 := (H6.out.1.below hb27 H6.out.1.inside).alloc (.cells #[.int .i64 0, .int .i64 0, .int .i64 0, .int .i64 0] 23)
          have hY7 := (H6.out.2.1.below hb27 H6.out.2.1.inside).alloc (.cells #[.int .i64 0, .int .i64 0, .int .i64 0, .int .i64 0] 23)
          have hZ7 := Has.made w27 23 #[.int .i64 0, .int .i64 0, .int .i64 0, .int .i64 0]
          have hbo := (H6.out.2.2.below hb27).below ((Below.refl _ w27).alloc (Nat.le_refl _) (.cells #[.int .i64 0, .int .i64 0, .int .i64 0, .int .i64 0] 23))
          have hal := alive_walk (w27.alloc (.cells #[.int .i64 0, .int .i64 0, .int .i64 0, .int .i64 0] 23))
          have H7 := Lib.hid (And.intro hX7 (And.intro hY7 (And.intro hbo hZ7)))
          clear hcn hX7 hY7 hbo hb27 H6 hZ7
          go_wp2_with fail
          refine hal.mono ?_
          rintro e w28 ⟨rfl, hb28⟩
          have hX8 := H7.out.1.below hb28 H7.out.1.inside
          have hY8 := H7.out.2.1.below hb28 H7.out.2.1.inside
          have hbo := H7.out.2.2.1.below hb28
          have hZ8 := H7.out.2.2.2.below hb28 H7.out.2.2.2.inside
          obtain ⟨⟨z0, z1, z2, z3⟩, -⟩ := hZ8.four
          obtain ⟨⟨l0, l1, l2, l3⟩, -⟩ := hX8.four
          obtain ⟨⟨y0, y1, y2, y3⟩, -⟩ := hY8.four
          have hout := HS5.out.on (show Below W5.heap.size W5 w28 by rw [HB.out]; exact hbo.out)
          have HO := Lib.hid hout.2.2
          clear hal hX8 hY8 hZ8 hbo hout hb28 H7
          go_wp2_with fail
          refine (mwrite_none w28).mono ?_
          rintro e w29 ⟨rfl, hb29⟩
          have HO2 := Lib.hid (HO.out.trans (hb29.mono HO.out.size))
          clear hb29 HO l0 l1 l2 l3 y0 y1 y2 y3 z0 z1 z2 z3
          go_wp2_with fail
          go_ret
          exact ⟨rfl, HO2.out⟩
    · have e2 : ((T.size : Int) == 256) = false := by rw [beq_eq_false_iff_ne]; omega
      have hg4 := get_any page b w3
      have hr4 := fun W' => refGetMeta_any page b W' hpg
      obtain ⟨v0, h0⟩ : ∃ v, getN page b.data.toList 0 = v := ⟨_, rfl⟩
      obtain ⟨v1, h1⟩ : ∃ v, getN page b.data.toList 1 = v := ⟨_, rfl⟩
      obtain ⟨v2, h2⟩ : ∃ v, getN page b.data.toList 2 = v := ⟨_, rfl⟩
      obtain ⟨v3, h3⟩ : ∃ v, getN page b.data.toList 3 = v := ⟨_, rfl⟩
      obtain ⟨Eg, hEg⟩ : ∃ v, getE page b.data.toList = v := ⟨_, rfl⟩
      unfold getV metaV at hg4 hr4
      simp only [h0, h1, h2, h3, hEg] at hg4 hr4
      have HR4 := Lib.hid hr4
      clear h0 h1 h2 h3 hEg hr4
      go_wp2_with fail
      refine hg4.mono ?_
      rintro e w14 ⟨rfl, hb4⟩
      have hS4 := (HS3.out.on hb4).on ((Below.refl _ w14).alloc (Nat.le_refl _) (.cells #[.int .i64 v0, .int .i64 v1, .int .i64 v2, .int .i64 v3] 23))
      have hX4 := Has.made w14 23 #[.int .i64 v0, .int .i64 v1, .int .i64 v2, .int .i64 v3]
      have hc5 := HR4.out (w14.alloc (.cells #[.int .i64 v0, .int .i64 v1, .int .i64 v2, .int .i64 v3] 23))
      have HS4 := Lib.hid (And.intro hS4 hX4)
      clear hg4 hb4 hS4 hX4 HR4 HS3
      go_wp2_with fail
      refine hc5.mono ?_
      rintro e w15 ⟨rfl, hb5⟩
      have hS5 := (HS4.out.1.on hb5).on ((Below.refl _ w15).alloc (Nat.le_refl _) (.cells #[.int .i64 v0, .int .i64 v1, .int .i64 v2, .int .i64 v3] 23))
      have hX5 := (HS4.out.2.below hb5 HS4.out.2.inside).alloc (.cells #[.int .i64 v0, .int .i64 v1, .int .i64 v2, .int .i64 v3] 23)
      obtain ⟨⟨l0, l1, l2, l3⟩, -⟩ := hX5.four
      have HS5 := Lib.hid hS5
      clear hc5 hb5 hS5 hX5 HS4
      obtain ⟨W5, hW5⟩ : ∃ W5, w15.alloc (.cells #[.int .i64 v0, .int .i64 v1, .int .i64 v2, .int .i64 v3] 23) = W5 := ⟨_, rfl⟩
      have hnw := new_ok 2 W5 (by omega) (by omega)
      rw [← hW5] at hnw
      have HW5 := Lib.hid hW5
      clear hW5
      go_wp2_with fail
      refine hnw.mono ?_
      rintro e w16 ⟨rfl, hd6, hb6⟩
      rw [HW5.out] at hd6 hb6
      rw [HW5.out]
      obtain ⟨B, hB⟩ : ∃ B, W5.heap.size = B := ⟨_, rfl⟩
      rw [HW5.out] at HS5
      rw [hB] at hd6 hb6 ⊢
      have hbo := both_new (B := B) (w := W5) hd6 (by simp) hb6 (by have := hb6.size; omega)
      have hrn := rnew5 w16
      have HBO := Lib.hid hbo
      have HB := Lib.hid hB
      clear hnw hd6 hb6 hbo hB HW5 l0 l1 l2 l3
      go_wp2_with fail
      refine hrn.mono ?_
      rintro e w17 ⟨rfl, rfl⟩
      clear hrn
      obtain ⟨q, hq⟩ : ∃ q, w16.heap.size = q := ⟨_, rfl⟩
      have hbo := HBO.out
      rw [hq] at hbo ⊢
      generalize w16.alloc (.cells (rdV (.slice none 0 0) (.slice none 0 0)) 65) = w17 at *
      have HBO2 := Lib.hid hbo
      clear HBO hbo hq
      obtain ⟨k1, hk1⟩ : ∃ k : Nat, (which / 2) % 2 = k := ⟨((which / 2) % 2).toNat, by omega⟩
      have ha1 := i64_and1 (which / 2)
      rw [hk1] at ha1
      have hk1b : k1 ≤ 1 := by omega
      have hk2 : IntKind.i64.wrap (2 - (k1 : Int)) = ((2 - k1 : Nat) : Int) := by rw [IntWalk.i64_in _ (by omega)]; omega
      obtain ⟨k, hk⟩ : ∃ k, 2 - k1 = k := ⟨_, rfl⟩
      rw [hk] at hk2
      have hkb : k ≤ 2 ∧ 1 ≤ k := by omega
      have hgd := both_grow_d HBO2.out k
      rw [(grown5 k hkb.1).1, (grown5 k hkb.1).2] at hgd
      clear HBO2
      go_wp2_with fail
      refine hgd.mono ?_
      rintro e w18 ⟨rfl, hbo⟩
      have hgr := both_grow_r hbo k hkb.1 hkb.2
      clear hgd hbo
      go_wp2_with fail
      refine hgr.mono ?_
      rintro e w19 ⟨rfl, hbo⟩
      have hsim := Sim.new hkb.1
      have hll : 1 ≤ (List.replicate k blank).length := by simp; exact hkb.2
      generalize longer (newS 2) k = s5 at *
      generalize List.replicate k blank = Ls at *
      have HBO := Lib.hid (And.intro hbo (And.intro hsim hll))
      clear hgr hbo hsim hll ha1 hk2 hk1b hk1 hkb hk
      obtain ⟨k3, hk3⟩ : ∃ k : Nat, (which / 4) % 2 = k := ⟨((which / 4) % 2).toNat, by omega⟩
      have ha3 := i64_and1 (which / 4)
      rw [hk3] at ha3
      have hk3b : k3 ≤ 1 := by omega
      by_cases hz3 : b.size = 256
      · have e3 : ((b.size : Int) == 256) = true := by rw [hz3]; rfl
        have hwd := both_write_d HBO.out.1 k3 b (by have := HBO.out.2.1.cap.1; omega)
        obtain ⟨f1, f2⟩ := HBO.out.2.1.write (by simp) k3 b hz3
        have hwl := wrTo_len Ls [] k3 b
        rw [f1] at hwd
        obtain ⟨Ew, hEw⟩ : ∃ Ew : Int, (if k3 < Ls.length then 0 else 3) = Ew := ⟨_, rfl⟩
        rw [hEw] at hwd
        have HEw := Lib.hid hEw
        clear hEw
        have HF := Lib.hid (And.intro f2 (And.intro hwl HBO.out.2.2))
        clear f1 f2 hwl HBO
        go_wp2_with fail
        refine hwd.mono ?_
        rintro e w20 ⟨rfl, hbo⟩
        have hwr := both_write_r hbo (by simp) k3 hk3b b hz3
        rw [HEw.out] at hwr
        clear hwd hbo
        go_wp2_with fail
        refine hwr.mono ?_
        rintro e w21 ⟨rfl, hbo⟩
        obtain ⟨hsim, hwl, hll⟩ := HF.out
        generalize writeS s5 (k3 : Int) b = s6 at *
        generalize wrTo Ls [] k3 b = Ws6 at *
        have HBO := Lib.hid (And.intro hbo (And.intro hsim (And.intro hll (show Ws6.length ≤ 1 by simpa using hwl))))
        clear hwr hbo HF hsim hwl hll
        have hSn := HS5.out.on (show Below W5.heap.size W5 w21 by rw [HB.out]; exact HBO.out.1.out)
        obtain ⟨⟨n0, n1, n2, n3⟩, -⟩ := hSn.2.1.four
        have hpm := refPutMeta_any t2 r2 f2 x2 w21 ht2 hr2 hf2 hx2
        unfold metaV at hpm
        by_cases hok : MetaOK t2 r2 f2 x2
        · rw [putB, putE, if_pos hok, if_pos hok] at hpm
          have hmB : (⟨(mpage t2.toNat r2.toNat f2.toNat x2.toNat).toArray⟩ : ByteArray) = mB t2 r2 f2 x2 := rfl
          rw [hmB] at hpm
          clear hSn
          go_wp2_with fail
          refine hpm.mono ?_
          rintro e w22 ⟨rfl, hb22⟩
          have hbo := HBO.out.1.below hb22
          have hSn := HS5.out.on (show Below W5.heap.size W5 w22 by rw [HB.out]; exact hbo.out)
          obtain ⟨⟨n0, n1, n2, n3⟩, -⟩ := hSn.2.1.four
          obtain ⟨k4, hk4⟩ : ∃ k : Nat, t2 % 2 = k := ⟨(t2 % 2).toNat, by omega⟩
          have hk4b : k4 ≤ 1 := by omega
          have hmw := both_mwrite_d hbo (by have := HBO.out.2.1.cap.1; omega) t2 r2 f2 x2 ht2 hr2 hf2 hx2 hok
          obtain ⟨f1, f2'⟩ := HBO.out.2.1.write (by have := HBO.out.2.2.2; omega) k4 (mB t2 r2 f2 x2) (mB_size _ _ _ _)
          obtain ⟨Ei, hEi⟩ : ∃ Ei : Int, (if k4 < Ls.length then 0 else 3) = Ei := ⟨_, rfl⟩
          rw [hk4, f1, hEi] at hmw
          have HEi := Lib.hid hEi
          clear hEi
          unfold metaV at hmw
          have hz4 := mB_size t2 r2 f2 x2
          have HK4 := Lib.hid (And.intro hk4 (And.intro f2' hz4))
          clear hpm hb22 hSn hbo hmB f1 f2' hz4
          generalize mB t2 r2 f2 x2 = U at *
          go_wp2_with fail
          refine hmw.mono ?_
          rintro e w23 ⟨rfl, hbo⟩
          have hSn := HS5.out.on (show Below W5.heap.size W5 w23 by rw [HB.out]; exact hbo.out)
          obtain ⟨⟨n0, n1, n2, n3⟩, -⟩ := hSn.2.1.four
          have hrp := refPlace_any t2 w23
          rw [HK4.out.1] at hrp
          have hwr := both_write_r hbo HBO.out.2.2.2 k4 hk4b U HK4.out.2.2
          rw [HEi.out] at hwr
          clear hmw hbo hSn hk4
          go_wp2_with fail
          refine hrp.mono ?_
          rintro e w' ⟨rfl, rfl⟩
          clear hrp
          go_wp2_with fail
          refine hwr.mono ?_
          rintro e w24 ⟨rfl, hbo⟩
          have hsim7 := HK4.out.2.1
          generalize writeS _ (k4 : Int) U = s7 at *
          generalize wrTo Ls _ k4 U = Ws7 at *
          have HB7 := Lib.hid (And.intro hbo (And.intro hsim7 HBO.out.2.2.1))
          clear hwr hbo hsim7
          have hcd := both_choose_d HB7.out.1
          have hch := HB7.out.2.1.choose
          rw [hch.1, hch.2] at hcd
          have hcr := fun W' (hb : Both B W5 B s7 q Ls Ws7 W') => both_choose_r hb HB7.out.2.2
          obtain ⟨Ec, hEc⟩ : ∃ E, choE (rdE Ls 0) (rdE Ls 1) (rdB Ls Ws7 0).data.toList (rdB Ls Ws7 1).data.toList = E := ⟨_, rfl⟩
          unfold choV metaV at hcd hcr
          obtain ⟨c0, hc0⟩ : ∃ c, choN (rdE Ls 0) (rdE Ls 1) (rdB Ls Ws7 0).data.toList (rdB Ls Ws7 1).data.toList 0 = c := ⟨_, rfl⟩
          obtain ⟨c1, hc1⟩ : ∃ c, choN (rdE Ls 0) (rdE Ls 1) (rdB Ls Ws7 0).data.toList (rdB Ls Ws7 1).data.toList 1 = c := ⟨_, rfl⟩
          obtain ⟨c2, hc2⟩ : ∃ c, choN (rdE Ls 0) (rdE Ls 1) (rdB Ls Ws7 0).data.toList (rdB Ls Ws7 1).data.toList 2 = c := ⟨_, rfl⟩
          obtain ⟨c3, hc3⟩ : ∃ c, choN (rdE Ls 0) (rdE Ls 1) (rdB Ls Ws7 0).data.toList (rdB Ls Ws7 1).data.toList 3 = c := ⟨_, rfl⟩
          simp only [hEc, hc0, hc1, hc2, hc3] at hcd hcr
          have HCR := Lib.hid hcr
          clear hch hcr hEc hc0 hc1 hc2 hc3
          go_wp2_with fail
          refine hcd.mono ?_
          rintro e w25 ⟨rfl, hbo, -⟩
          have hbo := hbo.below ((Below.refl _ w25).alloc (Nat.le_refl _) (.cells #[.int .i64 c0, .int .i64 c1, .int .i64 c2, .int .i64 c3] 23))
          have hX := Has.made w25 23 #[.int .i64 c0, .int .i64 c1, .int .i64 c2, .int .i64 c3]
          have hcr := HCR.out _ hbo
          have HX := Lib.hid (And.intro hX hbo)
          clear hcd hbo hX HCR HB7
          go_wp2_with fail
          refine hcr.mono ?_
          rintro e w26 ⟨rfl, hbo, hb26⟩
          have hX6 := (HX.out.1.below hb26 HX.out.1.inside).alloc (.cells #[.int .i64 c0, .int .i64 c1, .int .i64 c2, .int .i64 c3] 23)
          have hY6 := Has.made w26 23 #[.int .i64 c0, .int .i64 c1, .int .i64 c2, .int .i64 c3]
          have hbo := hbo.below ((Below.refl _ w26).alloc (Nat.le_refl _) (.cells #[.int .i64 c0, .int .i64 c1, .int .i64 c2, .int .i64 c3] 23))
          have hcn := choose_nil (w26.alloc (.cells #[.int .i64 c0, .int .i64 c1, .int .i64 c2, .int .i64 c3] 23))
          unfold metaV at hcn
          have H6 := Lib.hid (And.intro hX6 (And.intro hY6 hbo))
          clear hcr hbo hX6 hY6 hb26 HX
          go_wp2_with fail
          refine hcn.mono ?_
          rintro e w27 ⟨rfl, hb27⟩
          have hX7 := (H6.out.1.below hb27 H6.out.1.inside).alloc (.cells #[.int .i64 0, .int .i64 0, .int .i64 0, .int .i64 0] 23)
          have hY7 := (H6.out.2.1.below hb27 H6.out.2.1.inside).alloc (.cells #[.int .i64 0, .int .i64 0, .int .i64 0, .int .i64 0] 23)
          have hZ7 := Has.made w27 23 #[.int .i64 0, .int .i64 0, .int .i64 0, .int .i64 0]
          have hbo := (H6.out.2.2.below hb27).below ((Below.refl _ w27).alloc (Nat.le_refl _) (.cells #[.int .i64 0, .int .i64 0, .int .i64 0, .int .i64 0] 23))
          have hal := alive_walk (w27.alloc (.cells #[.int .i64 0, .int .i64 0, .int .i64 0, .int .i64 0] 23))
          have H7 := Lib.hid (And.intro hX7 (And.intro hY7 (And.intro hbo hZ7)))
          clear hcn hX7 hY7 hbo hb27 H6 hZ7
          go_wp2_with fail
          refine hal.mono ?_
          rintro e w28 ⟨rfl, hb28⟩
          have hX8 := H7.out.1.below hb28 H7.out.1.inside
          have hY8 := H7.out.2.1.below hb28 H7.out.2.1.inside
          have hbo := H7.out.2.2.1.below hb28
          have hZ8 := H7.out.2.2.2.below hb28 H7.out.2.2.2.inside
          obtain ⟨⟨z0, z1, z2, z3⟩, -⟩ := hZ8.four
          obtain ⟨⟨l0, l1, l2, l3⟩, -⟩ := hX8.four
          obtain ⟨⟨y0, y1, y2, y3⟩, -⟩ := hY8.four
          have hout := HS5.out.on (show Below W5.heap.size W5 w28 by rw [HB.out]; exact hbo.out)
          have HO := Lib.hid hout.2.2
          clear hal hX8 hY8 hZ8 hbo hout hb28 H7
          go_wp2_with fail
          refine (mwrite_none w28).mono ?_
          rintro e w29 ⟨rfl, hb29⟩
          have HO2 := Lib.hid (HO.out.trans (hb29.mono HO.out.size))
          clear hb29 HO l0 l1 l2 l3 y0 y1 y2 y3 z0 z1 z2 z3
          go_wp2_with fail
          go_ret
          exact ⟨rfl, HO2.out⟩
        · rw [putB, putE, if_neg hok, if_neg hok] at hpm
          clear hSn
          go_wp2_with fail
          refine hpm.mono ?_
          rintro e w22 ⟨rfl, hb22⟩
          have hbo := HBO.out.1.below hb22
          have hSn := HS5.out.on (show Below W5.heap.size W5 w22 by rw [HB.out]; exact hbo.out)
          obtain ⟨⟨n0, n1, n2, n3⟩, -⟩ := hSn.2.1.four
          have hmw := mwrite_bad (.pointer (some ⟨B, 0, none⟩)) t2 r2 f2 x2 w22 ht2 hr2 hf2 hx2 hok
          unfold metaV at hmw
          have HB6 := Lib.hid hbo
          clear hpm hb22 hSn hbo
          go_wp2_with fail
          refine hmw.mono ?_
          rintro e w24 ⟨rfl, hb24⟩
          have hbo := HB6.out.below hb24
          have hsim7 := HBO.out.2.1
          have hll7 := HBO.out.2.2.1
          clear HB6 HBO
          obtain ⟨s7, hs7⟩ : ∃ s7, s6 = s7 := ⟨_, rfl⟩
          obtain ⟨Ws7, hws7⟩ : ∃ Ws7, Ws6 = Ws7 := ⟨_, rfl⟩
          rw [hs7, hws7] at hbo hsim7
          have HB7 := Lib.hid (And.intro hbo (And.intro hsim7 hll7))
          clear hmw hb24 hbo hsim7 hll7 hs7 hws7
          have hcd := both_choose_d HB7.out.1
          have hch := HB7.out.2.1.choose
          rw [hch.1, hch.2] at hcd
          have hcr := fun W' (hb : Both B W5 B s7 q Ls Ws7 W') => both_choose_r hb HB7.out.2.2
          obtain ⟨Ec, hEc⟩ : ∃ E, choE (rdE Ls 0) (rdE Ls 1) (rdB Ls Ws7 0).data.toList (rdB Ls Ws7 1).data.toList = E := ⟨_, rfl⟩
          unfold choV metaV at hcd hcr
          obtain ⟨c0, hc0⟩ : ∃ c, choN (rdE Ls 0) (rdE Ls 1) (rdB Ls Ws7 0).data.toList (rdB Ls Ws7 1).data.toList 0 = c := ⟨_, rfl⟩
          obtain ⟨c1, hc1⟩ : ∃ c, choN (rdE Ls 0) (rdE Ls 1) (rdB Ls Ws7 0).data.toList (rdB Ls Ws7 1).data.toList 1 = c := ⟨_, rfl⟩
          obtain ⟨c2, hc2⟩ : ∃ c, choN (rdE Ls 0) (rdE Ls 1) (rdB Ls Ws7 0).data.toList (rdB Ls Ws7 1).data.toList 2 = c := ⟨_, rfl⟩
          obtain ⟨c3, hc3⟩ : ∃ c, choN (rdE Ls 0) (rdE Ls 1) (rdB Ls Ws7 0).data.toList (rdB Ls Ws7 1).data.toList 3 = c := ⟨_, rfl⟩
          simp only [hEc, hc0, hc1, hc2, hc3] at hcd hcr
          have HCR := Lib.hid hcr
          clear hch hcr hEc hc0 hc1 hc2 hc3
          go_wp2_with fail
          refine hcd.mono ?_
          rintro e w25 ⟨rfl, hbo, -⟩
          have hbo := hbo.below ((Below.refl _ w25).alloc (Nat.le_refl _) (.cells #[.int .i64 c0, .int .i64 c1, .int .i64 c2, .int .i64 c3] 23))
          have hX := Has.made w25 23 #[.int .i64 c0, .int .i64 c1, .int .i64 c2, .int .i64 c3]
          have hcr := HCR.out _ hbo
          have HX := Lib.hid (And.intro hX hbo)
          clear hcd hbo hX HCR HB7
          go_wp2_with fail
          refine hcr.mono ?_
          rintro e w26 ⟨rfl, hbo, hb26⟩
          have hX6 := (HX.out.1.below hb26 HX.out.1.inside).alloc (.cells #[.int .i64 c0, .int .i64 c1, .int .i64 c2, .int .i64 c3] 23)
          have hY6 := Has.made w26 23 #[.int .i64 c0, .int .i64 c1, .int .i64 c2, .int .i64 c3]
          have hbo := hbo.below ((Below.refl _ w26).alloc (Nat.le_refl _) (.cells #[.int .i64 c0, .int .i64 c1, .int .i64 c2, .int .i64 c3] 23))
          have hcn := choose_nil (w26.alloc (.cells #[.int .i64 c0, .int .i64 c1, .int .i64 c2, .int .i64 c3] 23))
          unfold metaV at hcn
          have H6 := Lib.hid (And.intro hX6 (And.intro hY6 hbo))
          clear hcr hbo hX6 hY6 hb26 HX
          go_wp2_with fail
          refine hcn.mono ?_
          rintro e w27 ⟨rfl, hb27⟩
          have hX7 := (H6.out.1.below hb27 H6.out.1.inside).alloc (.cells #[.int .i64 0, .int .i64 0, .int .i64 0, .int .i64 0] 23)
          have hY7 := (H6.out.2.1.below hb27 H6.out.2.1.inside).alloc (.cells #[.int .i64 0, .int .i64 0, .int .i64 0, .int .i64 0] 23)
          have hZ7 := Has.made w27 23 #[.int .i64 0, .int .i64 0, .int .i64 0, .int .i64 0]
          have hbo := (H6.out.2.2.below hb27).below ((Below.refl _ w27).alloc (Nat.le_refl _) (.cells #[.int .i64 0, .int .i64 0, .int .i64 0, .int .i64 0] 23))
          have hal := alive_walk (w27.alloc (.cells #[.int .i64 0, .int .i64 0, .int .i64 0, .int .i64 0] 23))
          have H7 := Lib.hid (And.intro hX7 (And.intro hY7 (And.intro hbo hZ7)))
          clear hcn hX7 hY7 hbo hb27 H6 hZ7
          go_wp2_with fail
          refine hal.mono ?_
          rintro e w28 ⟨rfl, hb28⟩
          have hX8 := H7.out.1.below hb28 H7.out.1.inside
          have hY8 := H7.out.2.1.below hb28 H7.out.2.1.inside
          have hbo := H7.out.2.2.1.below hb28
          have hZ8 := H7.out.2.2.2.below hb28 H7.out.2.2.2.inside
          obtain ⟨⟨z0, z1, z2, z3⟩, -⟩ := hZ8.four
          obtain ⟨⟨l0, l1, l2, l3⟩, -⟩ := hX8.four
          obtain ⟨⟨y0, y1, y2, y3⟩, -⟩ := hY8.four
          have hout := HS5.out.on (show Below W5.heap.size W5 w28 by rw [HB.out]; exact hbo.out)
          have HO := Lib.hid hout.2.2
          clear hal hX8 hY8 hZ8 hbo hout hb28 H7
          go_wp2_with fail
          refine (mwrite_none w28).mono ?_
          rintro e w29 ⟨rfl, hb29⟩
          have HO2 := Lib.hid (HO.out.trans (hb29.mono HO.out.size))
          clear hb29 HO l0 l1 l2 l3 y0 y1 y2 y3 z0 z1 z2 z3
          go_wp2_with fail
          go_ret
          exact ⟨rfl, HO2.out⟩
      · have e3 : ((b.size : Int) == 256) = false := by rw [beq_eq_false_iff_ne]; omega
        obtain ⟨hbo, hsim, hll⟩ := HBO.out
        obtain ⟨Ws6, hws⟩ : ∃ Ws6 : List (Int × ByteArray), [] = Ws6 := ⟨_, rfl⟩
        have hwl : Ws6.length ≤ 1 := by rw [← hws]; simp
        rw [hws] at hbo hsim
        have HBO2 := Lib.hid (And.intro hbo (And.intro hsim (And.intro hll hwl)))
        clear hbo hsim hll hwl hws HBO
        have hSn := HS5.out.on (show Below W5.heap.size W5 w19 by rw [HB.out]; exact HBO2.out.1.out)
        obtain ⟨⟨n0, n1, n2, n3⟩, -⟩ := hSn.2.1.four
        have hpm := refPutMeta_any t2 r2 f2 x2 w19 ht2 hr2 hf2 hx2
        unfold metaV at hpm
        by_cases hok : MetaOK t2 r2 f2 x2
        · rw [putB, putE, if_pos hok, if_pos hok] at hpm
          have hmB : (⟨(mpage t2.toNat r2.toNat f2.toNat x2.toNat).toArray⟩ : ByteArray) = mB t2 r2 f2 x2 := rfl
          rw [hmB] at hpm
          clear hSn
          go_wp2_with fail
          refine hpm.mono ?_
          rintro e w22 ⟨rfl, hb22⟩
          have hbo := HBO2.out.1.below hb22
          have hSn := HS5.out.on (show Below W5.heap.size W5 w22 by rw [HB.out]; exact hbo.out)
          obtain ⟨⟨n0, n1, n2, n3⟩, -⟩ := hSn.2.1.four
          obtain ⟨k4, hk4⟩ : ∃ k : Nat, t2 % 2 = k := ⟨(t2 % 2).toNat, by omega⟩
          have hk4b : k4 ≤ 1 := by omega
          have hmw := both_mwrite_d hbo (by have := HBO2.out.2.1.cap.1; omega) t2 r2 f2 x2 ht2 hr2 hf2 hx2 hok
          obtain ⟨f1, f2'⟩ := HBO2.out.2.1.write (by have := HBO2.out.2.2.2; omega) k4 (mB t2 r2 f2 x2) (mB_size _ _ _ _)
          obtain ⟨Ei, hEi⟩ : ∃ Ei : Int, (if k4 < Ls.length then 0 else 3) = Ei := ⟨_, rfl⟩
          rw [hk4, f1, hEi] at hmw
          have HEi := Lib.hid hEi
          clear hEi
          unfold metaV at hmw
          have hz4 := mB_size t2 r2 f2 x2
          have HK4 := Lib.hid (And.intro hk4 (And.intro f2' hz4))
          clear hpm hb22 hSn hbo hmB f1 f2' hz4
          generalize mB t2 r2 f2 x2 = U at *
          go_wp2_with fail
          refine hmw.mono ?_
          rintro e w23 ⟨rfl, hbo⟩
          have hSn := HS5.out.on (show Below W5.heap.size W5 w23 by rw [HB.out]; exact hbo.out)
          obtain ⟨⟨n0, n1, n2, n3⟩, -⟩ := hSn.2.1.four
          have hrp := refPlace_any t2 w23
          rw [HK4.out.1] at hrp
          have hwr := both_write_r hbo HBO2.out.2.2.2 k4 hk4b U HK4.out.2.2
          rw [HEi.out] at hwr
          clear hmw hbo hSn hk4
          go_wp2_with fail
          refine hrp.mono ?_
          rintro e w' ⟨rfl, rfl⟩
          clear hrp
          go_wp2_with fail
          refine hwr.mono ?_
          rintro e w24 ⟨rfl, hbo⟩
          have hsim7 := HK4.out.2.1
          generalize writeS _ (k4 : Int) U = s7 at *
          generalize wrTo Ls _ k4 U = Ws7 at *
          have HB7 := Lib.hid (And.intro hbo (And.intro hsim7 HBO2.out.2.2.1))
          clear hwr hbo hsim7
          have hcd := both_choose_d HB7.out.1
          have hch := HB7.out.2.1.choose
          rw [hch.1, hch.2] at hcd
          have hcr := fun W' (hb : Both B W5 B s7 q Ls Ws7 W') => both_choose_r hb HB7.out.2.2
          obtain ⟨Ec, hEc⟩ : ∃ E, choE (rdE Ls 0) (rdE Ls 1) (rdB Ls Ws7 0).data.toList (rdB Ls Ws7 1).data.toList = E := ⟨_, rfl⟩
          unfold choV metaV at hcd hcr
          obtain ⟨c0, hc0⟩ : ∃ c, choN (rdE Ls 0) (rdE Ls 1) (rdB Ls Ws7 0).data.toList (rdB Ls Ws7 1).data.toList 0 = c := ⟨_, rfl⟩
          obtain ⟨c1, hc1⟩ : ∃ c, choN (rdE Ls 0) (rdE Ls 1) (rdB Ls Ws7 0).data.toList (rdB Ls Ws7 1).data.toList 1 = c := ⟨_, rfl⟩
          obtain ⟨c2, hc2⟩ : ∃ c, choN (rdE Ls 0) (rdE Ls 1) (rdB Ls Ws7 0).data.toList (rdB Ls Ws7 1).data.toList 2 = c := ⟨_, rfl⟩
          obtain ⟨c3, hc3⟩ : ∃ c, choN (rdE Ls 0) (rdE Ls 1) (rdB Ls Ws7 0).data.toList (rdB Ls Ws7 1).data.toList 3 = c := ⟨_, rfl⟩
          simp only [hEc, hc0, hc1, hc2, hc3] at hcd hcr
          have HCR := Lib.hid hcr
          clear hch hcr hEc hc0 hc1 hc2 hc3
          go_wp2_with fail
          refine hcd.mono ?_
          rintro e w25 ⟨rfl, hbo, -⟩
          have hbo := hbo.below ((Below.refl _ w25).alloc (Nat.le_refl _) (.cells #[.int .i64 c0, .int .i64 c1, .int .i64 c2, .int .i64 c3] 23))
          have hX := Has.made w25 23 #[.int .i64 c0, .int .i64 c1, .int .i64 c2, .int .i64 c3]
          have hcr := HCR.out _ hbo
          have HX := Lib.hid (And.intro hX hbo)
          clear hcd hbo hX HCR HB7
          go_wp2_with fail
          refine hcr.mono ?_
          rintro e w26 ⟨rfl, hbo, hb26⟩
          have hX6 := (HX.out.1.below hb26 HX.out.1.inside).alloc (.cells #[.int .i64 c0, .int .i64 c1, .int .i64 c2, .int .i64 c3] 23)
          have hY6 := Has.made w26 23 #[.int .i64 c0, .int .i64 c1, .int .i64 c2, .int .i64 c3]
          have hbo := hbo.below ((Below.refl _ w26).alloc (Nat.le_refl _) (.cells #[.int .i64 c0, .int .i64 c1, .int .i64 c2, .int .i64 c3] 23))
          have hcn := choose_nil (w26.alloc (.cells #[.int .i64 c0, .int .i64 c1, .int .i64 c2, .int .i64 c3] 23))
          unfold metaV at hcn
          have H6 := Lib.hid (And.intro hX6 (And.intro hY6 hbo))
          clear hcr hbo hX6 hY6 hb26 HX
          go_wp2_with fail
          refine hcn.mono ?_
          rintro e w27 ⟨rfl, hb27⟩
          have hX7 := (H6.out.1.below hb27 H6.out.1.inside).alloc (.cells #[.int .i64 0, .int .i64 0, .int .i64 0, .int .i64 0] 23)
          have hY7 := (H6.out.2.1.below hb27 H6.out.2.1.inside).alloc (.cells #[.int .i64 0, .int .i64 0, .int .i64 0, .int .i64 0] 23)
          have hZ7 := Has.made w27 23 #[.int .i64 0, .int .i64 0, .int .i64 0, .int .i64 0]
          have hbo := (H6.out.2.2.below hb27).below ((Below.refl _ w27).alloc (Nat.le_refl _) (.cells #[.int .i64 0, .int .i64 0, .int .i64 0, .int .i64 0] 23))
          have hal := alive_walk (w27.alloc (.cells #[.int .i64 0, .int .i64 0, .int .i64 0, .int .i64 0] 23))
          have H7 := Lib.hid (And.intro hX7 (And.intro hY7 (And.intro hbo hZ7)))
          clear hcn hX7 hY7 hbo hb27 H6 hZ7
          go_wp2_with fail
          refine hal.mono ?_
          rintro e w28 ⟨rfl, hb28⟩
          have hX8 := H7.out.1.below hb28 H7.out.1.inside
          have hY8 := H7.out.2.1.below hb28 H7.out.2.1.inside
          have hbo := H7.out.2.2.1.below hb28
          have hZ8 := H7.out.2.2.2.below hb28 H7.out.2.2.2.inside
          obtain ⟨⟨z0, z1, z2, z3⟩, -⟩ := hZ8.four
          obtain ⟨⟨l0, l1, l2, l3⟩, -⟩ := hX8.four
          obtain ⟨⟨y0, y1, y2, y3⟩, -⟩ := hY8.four
          have hout := HS5.out.on (show Below W5.heap.size W5 w28 by rw [HB.out]; exact hbo.out)
          have HO := Lib.hid hout.2.2
          clear hal hX8 hY8 hZ8 hbo hout hb28 H7
          go_wp2_with fail
          refine (mwrite_none w28).mono ?_
          rintro e w29 ⟨rfl, hb29⟩
          have HO2 := Lib.hid (HO.out.trans (hb29.mono HO.out.size))
          clear hb29 HO l0 l1 l2 l3 y0 y1 y2 y3 z0 z1 z2 z3
          go_wp2_with fail
          go_ret
          exact ⟨rfl, HO2.out⟩
        · rw [putB, putE, if_neg hok, if_neg hok] at hpm
          clear hSn
          go_wp2_with fail
          refine hpm.mono ?_
          rintro e w22 ⟨rfl, hb22⟩
          have hbo := HBO2.out.1.below hb22
          have hSn := HS5.out.on (show Below W5.heap.size W5 w22 by rw [HB.out]; exact hbo.out)
          obtain ⟨⟨n0, n1, n2, n3⟩, -⟩ := hSn.2.1.four
          have hmw := mwrite_bad (.pointer (some ⟨B, 0, none⟩)) t2 r2 f2 x2 w22 ht2 hr2 hf2 hx2 hok
          unfold metaV at hmw
          have HB6 := Lib.hid hbo
          clear hpm hb22 hSn hbo
          go_wp2_with fail
          refine hmw.mono ?_
          rintro e w24 ⟨rfl, hb24⟩
          have hbo := HB6.out.below hb24
          have hsim7 := HBO2.out.2.1
          have hll7 := HBO2.out.2.2.1
          clear HB6 HBO2
          obtain ⟨s7, hs7⟩ : ∃ s7, s5 = s7 := ⟨_, rfl⟩
          obtain ⟨Ws7, hws7⟩ : ∃ Ws7, Ws6 = Ws7 := ⟨_, rfl⟩
          rw [hs7, hws7] at hbo hsim7
          have HB7 := Lib.hid (And.intro hbo (And.intro hsim7 hll7))
          clear hmw hb24 hbo hsim7 hll7 hs7 hws7
          have hcd := both_choose_d HB7.out.1
          have hch := HB7.out.2.1.choose
          rw [hch.1, hch.2] at hcd
          have hcr := fun W' (hb : Both B W5 B s7 q Ls Ws7 W') => both_choose_r hb HB7.out.2.2
          obtain ⟨Ec, hEc⟩ : ∃ E, choE (rdE Ls 0) (rdE Ls 1) (rdB Ls Ws7 0).data.toList (rdB Ls Ws7 1).data.toList = E := ⟨_, rfl⟩
          unfold choV metaV at hcd hcr
          obtain ⟨c0, hc0⟩ : ∃ c, choN (rdE Ls 0) (rdE Ls 1) (rdB Ls Ws7 0).data.toList (rdB Ls Ws7 1).data.toList 0 = c := ⟨_, rfl⟩
          obtain ⟨c1, hc1⟩ : ∃ c, choN (rdE Ls 0) (rdE Ls 1) (rdB Ls Ws7 0).data.toList (rdB Ls Ws7 1).data.toList 1 = c := ⟨_, rfl⟩
          obtain ⟨c2, hc2⟩ : ∃ c, choN (rdE Ls 0) (rdE Ls 1) (rdB Ls Ws7 0).data.toList (rdB Ls Ws7 1).data.toList 2 = c := ⟨_, rfl⟩
          obtain ⟨c3, hc3⟩ : ∃ c, choN (rdE Ls 0) (rdE Ls 1) (rdB Ls Ws7 0).data.toList (rdB Ls Ws7 1).data.toList 3 = c := ⟨_, rfl⟩
          simp only [hEc, hc0, hc1, hc2, hc3] at hcd hcr
          have HCR := Lib.hid hcr
          clear hch hcr hEc hc0 hc1 hc2 hc3
          go_wp2_with fail
          refine hcd.mono ?_
          rintro e w25 ⟨rfl, hbo, -⟩
          have hbo := hbo.below ((Below.refl _ w25).alloc (Nat.le_refl _) (.cells #[.int .i64 c0, .int .i64 c1, .int .i64 c2, .int .i64 c3] 23))
          have hX := Has.made w25 23 #[.int .i64 c0, .int .i64 c1, .int .i64 c2, .int .i64 c3]
          have hcr := HCR.out _ hbo
          have HX := Lib.hid (And.intro hX hbo)
          clear hcd hbo hX HCR HB7
          go_wp2_with fail
          refine hcr.mono ?_
          rintro e w26 ⟨rfl, hbo, hb26⟩
          have hX6 := (HX.out.1.below hb26 HX.out.1.inside).alloc (.cells #[.int .i64 c0, .int .i64 c1, .int .i64 c2, .int .i64 c3] 23)
          have hY6 := Has.made w26 23 #[.int .i64 c0, .int .i64 c1, .int .i64 c2, .int .i64 c3]
          have hbo := hbo.below ((Below.refl _ w26).alloc (Nat.le_refl _) (.cells #[.int .i64 c0, .int .i64 c1, .int .i64 c2, .int .i64 c3] 23))
          have hcn := choose_nil (w26.alloc (.cells #[.int .i64 c0, .int .i64 c1, .int .i64 c2, .int .i64 c3] 23))
          unfold metaV at hcn
          have H6 := Lib.hid (And.intro hX6 (And.intro hY6 hbo))
          clear hcr hbo hX6 hY6 hb26 HX
          go_wp2_with fail
          refine hcn.mono ?_
          rintro e w27 ⟨rfl, hb27⟩
          have hX7 := (H6.out.1.below hb27 H6.out.1.inside).alloc (.cells #[.int .i64 0, .int .i64 0, .int .i64 0, .int .i64 0] 23)
          have hY7 := (H6.out.2.1.below hb27 H6.out.2.1.inside).alloc (.cells #[.int .i64 0, .int .i64 0, .int .i64 0, .int .i64 0] 23)
          have hZ7 := Has.made w27 23 #[.int .i64 0, .int .i64 0, .int .i64 0, .int .i64 0]
          have hbo := (H6.out.2.2.below hb27).below ((Below.refl _ w27).alloc (Nat.le_refl _) (.cells #[.int .i64 0, .int .i64 0, .int .i64 0, .int .i64 0] 23))
          have hal := alive_walk (w27.alloc (.cells #[.int .i64 0, .int .i64 0, .int .i64 0, .int .i64 0] 23))
          have H7 := Lib.hid (And.intro hX7 (And.intro hY7 (And.intro hbo hZ7)))
          clear hcn hX7 hY7 hbo hb27 H6 hZ7
          go_wp2_with fail
          refine hal.mono ?_
          rintro e w28 ⟨rfl, hb28⟩
          have hX8 := H7.out.1.below hb28 H7.out.1.inside
          have hY8 := H7.out.2.1.below hb28 H7.out.2.1.inside
          have hbo := H7.out.2.2.1.below hb28
          have hZ8 := H7.out.2.2.2.below hb28 H7.out.2.2.2.inside
          obtain ⟨⟨z0, z1, z2, z3⟩, -⟩ := hZ8.four
          obtain ⟨⟨l0, l1, l2, l3⟩, -⟩ := hX8.four
          obtain ⟨⟨y0, y1, y2, y3⟩, -⟩ := hY8.four
          have hout := HS5.out.on (show Below W5.heap.size W5 w28 by rw [HB.out]; exact hbo.out)
          have HO := Lib.hid hout.2.2
          clear hal hX8 hY8 hZ8 hbo hout hb28 H7
          go_wp2_with fail
          refine (mwrite_none w28).mono ?_
          rintro e w29 ⟨rfl, hb29⟩
          have HO2 := Lib.hid (HO.out.trans (hb29.mono HO.out.size))
          clear hb29 HO l0 l1 l2 l3 y0 y1 y2 y3 z0 z1 z2 z3
          go_wp2_with fail
          go_ret
          exact ⟨rfl, HO2.out⟩
  · have e1 : (which % 2 == 0) = false := by simpa using hw
    have hg4 := get_any page b w3
    have hr4 := fun W' => refGetMeta_any page b W' hpg
    obtain ⟨v0, h0⟩ : ∃ v, getN page b.data.toList 0 = v := ⟨_, rfl⟩
    obtain ⟨v1, h1⟩ : ∃ v, getN page b.data.toList 1 = v := ⟨_, rfl⟩
    obtain ⟨v2, h2⟩ : ∃ v, getN page b.data.toList 2 = v := ⟨_, rfl⟩
    obtain ⟨v3, h3⟩ : ∃ v, getN page b.data.toList 3 = v := ⟨_, rfl⟩
    obtain ⟨Eg, hEg⟩ : ∃ v, getE page b.data.toList = v := ⟨_, rfl⟩
    unfold getV metaV at hg4 hr4
    simp only [h0, h1, h2, h3, hEg] at hg4 hr4
    have HR4 := Lib.hid hr4
    clear h0 h1 h2 h3 hEg hr4
    go_wp2_with fail
    refine hg4.mono ?_
    rintro e w14 ⟨rfl, hb4⟩
    have hS4 := (HS3.out.on hb4).on ((Below.refl _ w14).alloc (Nat.le_refl _) (.cells #[.int .i64 v0, .int .i64 v1, .int .i64 v2, .int .i64 v3] 23))
    have hX4 := Has.made w14 23 #[.int .i64 v0, .int .i64 v1, .int .i64 v2, .int .i64 v3]
    have hc5 := HR4.out (w14.alloc (.cells #[.int .i64 v0, .int .i64 v1, .int .i64 v2, .int .i64 v3] 23))
    have HS4 := Lib.hid (And.intro hS4 hX4)
    clear hg4 hb4 hS4 hX4 HR4 HS3
    go_wp2_with fail
    refine hc5.mono ?_
    rintro e w15 ⟨rfl, hb5⟩
    have hS5 := (HS4.out.1.on hb5).on ((Below.refl _ w15).alloc (Nat.le_refl _) (.cells #[.int .i64 v0, .int .i64 v1, .int .i64 v2, .int .i64 v3] 23))
    have hX5 := (HS4.out.2.below hb5 HS4.out.2.inside).alloc (.cells #[.int .i64 v0, .int .i64 v1, .int .i64 v2, .int .i64 v3] 23)
    obtain ⟨⟨l0, l1, l2, l3⟩, -⟩ := hX5.four
    have HS5 := Lib.hid hS5
    clear hc5 hb5 hS5 hX5 HS4
    obtain ⟨W5, hW5⟩ : ∃ W5, w15.alloc (.cells #[.int .i64 v0, .int .i64 v1, .int .i64 v2, .int .i64 v3] 23) = W5 := ⟨_, rfl⟩
    have hnw := new_ok 2 W5 (by omega) (by omega)
    rw [← hW5] at hnw
    have HW5 := Lib.hid hW5
    clear hW5
    go_wp2_with fail
    refine hnw.mono ?_
    rintro e w16 ⟨rfl, hd6, hb6⟩
    rw [HW5.out] at hd6 hb6
    rw [HW5.out]
    obtain ⟨B, hB⟩ : ∃ B, W5.heap.size = B := ⟨_, rfl⟩
    rw [HW5.out] at HS5
    rw [hB] at hd6 hb6 ⊢
    have hbo := both_new (B := B) (w := W5) hd6 (by simp) hb6 (by have := hb6.size; omega)
    have hrn := rnew5 w16
    have HBO := Lib.hid hbo
    have HB := Lib.hid hB
    clear hnw hd6 hb6 hbo hB HW5 l0 l1 l2 l3
    go_wp2_with fail
    refine hrn.mono ?_
    rintro e w17 ⟨rfl, rfl⟩
    clear hrn
    obtain ⟨q, hq⟩ : ∃ q, w16.heap.size = q := ⟨_, rfl⟩
    have hbo := HBO.out
    rw [hq] at hbo ⊢
    generalize w16.alloc (.cells (rdV (.slice none 0 0) (.slice none 0 0)) 65) = w17 at *
    have HBO2 := Lib.hid hbo
    clear HBO hbo hq
    obtain ⟨k1, hk1⟩ : ∃ k : Nat, (which / 2) % 2 = k := ⟨((which / 2) % 2).toNat, by omega⟩
    have ha1 := i64_and1 (which / 2)
    rw [hk1] at ha1
    have hk1b : k1 ≤ 1 := by omega
    have hk2 : IntKind.i64.wrap (2 - (k1 : Int)) = ((2 - k1 : Nat) : Int) := by rw [IntWalk.i64_in _ (by omega)]; omega
    obtain ⟨k, hk⟩ : ∃ k, 2 - k1 = k := ⟨_, rfl⟩
    rw [hk] at hk2
    have hkb : k ≤ 2 ∧ 1 ≤ k := by omega
    have hgd := both_grow_d HBO2.out k
    rw [(grown5 k hkb.1).1, (grown5 k hkb.1).2] at hgd
    clear HBO2
    go_wp2_with fail
    refine hgd.mono ?_
    rintro e w18 ⟨rfl, hbo⟩
    have hgr := both_grow_r hbo k hkb.1 hkb.2
    clear hgd hbo
    go_wp2_with fail
    refine hgr.mono ?_
    rintro e w19 ⟨rfl, hbo⟩
    have hsim := Sim.new hkb.1
    have hll : 1 ≤ (List.replicate k blank).length := by simp; exact hkb.2
    generalize longer (newS 2) k = s5 at *
    generalize List.replicate k blank = Ls at *
    have HBO := Lib.hid (And.intro hbo (And.intro hsim hll))
    clear hgr hbo hsim hll ha1 hk2 hk1b hk1 hkb hk
    obtain ⟨k3, hk3⟩ : ∃ k : Nat, (which / 4) % 2 = k := ⟨((which / 4) % 2).toNat, by omega⟩
    have ha3 := i64_and1 (which / 4)
    rw [hk3] at ha3
    have hk3b : k3 ≤ 1 := by omega
    by_cases hz3 : b.size = 256
    · have e3 : ((b.size : Int) == 256) = true := by rw [hz3]; rfl
      have hwd := both_write_d HBO.out.1 k3 b (by have := HBO.out.2.1.cap.1; omega)
      obtain ⟨f1, f2⟩ := HBO.out.2.1.write (by simp) k3 b hz3
      have hwl := wrTo_len Ls [] k3 b
      rw [f1] at hwd
      obtain ⟨Ew, hEw⟩ : ∃ Ew : Int, (if k3 < Ls.length then 0 else 3) = Ew := ⟨_, rfl⟩
      rw [hEw] at hwd
      have HEw := Lib.hid hEw
      clear hEw
      have HF := Lib.hid (And.intro f2 (And.intro hwl HBO.out.2.2))
      clear f1 f2 hwl HBO
      go_wp2_with fail
      refine hwd.mono ?_
      rintro e w20 ⟨rfl, hbo⟩
      have hwr := both_write_r hbo (by simp) k3 hk3b b hz3
      rw [HEw.out] at hwr
      clear hwd hbo
      go_wp2_with fail
      refine hwr.mono ?_
      rintro e w21 ⟨rfl, hbo⟩
      obtain ⟨hsim, hwl, hll⟩ := HF.out
      generalize writeS s5 (k3 : Int) b = s6 at *
      generalize wrTo Ls [] k3 b = Ws6 at *
      have HBO := Lib.hid (And.intro hbo (And.intro hsim (And.intro hll (show Ws6.length ≤ 1 by simpa using hwl))))
      clear hwr hbo HF hsim hwl hll
      have hSn := HS5.out.on (show Below W5.heap.size W5 w21 by rw [HB.out]; exact HBO.out.1.out)
      obtain ⟨⟨n0, n1, n2, n3⟩, -⟩ := hSn.2.1.four
      have hpm := refPutMeta_any t2 r2 f2 x2 w21 ht2 hr2 hf2 hx2
      unfold metaV at hpm
      by_cases hok : MetaOK t2 r2 f2 x2
      · rw [putB, putE, if_pos hok, if_pos hok] at hpm
        have hmB : (⟨(mpage t2.toNat r2.toNat f2.toNat x2.toNat).toArray⟩ : ByteArray) = mB t2 r2 f2 x2 := rfl
        rw [hmB] at hpm
        clear hSn
        go_wp2_with fail
        refine hpm.mono ?_
        rintro e w22 ⟨rfl, hb22⟩
        have hbo := HBO.out.1.below hb22
        have hSn := HS5.out.on (show Below W5.heap.size W5 w22 by rw [HB.out]; exact hbo.out)
        obtain ⟨⟨n0, n1, n2, n3⟩, -⟩ := hSn.2.1.four
        obtain ⟨k4, hk4⟩ : ∃ k : Nat, t2 % 2 = k := ⟨(t2 % 2).toNat, by omega⟩
        have hk4b : k4 ≤ 1 := by omega
        have hmw := both_mwrite_d hbo (by have := HBO.out.2.1.cap.1; omega) t2 r2 f2 x2 ht2 hr2 hf2 hx2 hok
        obtain ⟨f1, f2'⟩ := HBO.out.2.1.write (by have := HBO.out.2.2.2; omega) k4 (mB t2 r2 f2 x2) (mB_size _ _ _ _)
        obtain ⟨Ei, hEi⟩ : ∃ Ei : Int, (if k4 < Ls.length then 0 else 3) = Ei := ⟨_, rfl⟩
        rw [hk4, f1, hEi] at hmw
        have HEi := Lib.hid hEi
        clear hEi
        unfold metaV at hmw
        have hz4 := mB_size t2 r2 f2 x2
        have HK4 := Lib.hid (And.intro hk4 (And.intro f2' hz4))
        clear hpm hb22 hSn hbo hmB f1 f2' hz4
        generalize mB t2 r2 f2 x2 = U at *
        go_wp2_with fail
        refine hmw.mono ?_
        rintro e w23 ⟨rfl, hbo⟩
        have hSn := HS5.out.on (show Below W5.heap.size W5 w23 by rw [HB.out]; exact hbo.out)
        obtain ⟨⟨n0, n1, n2, n3⟩, -⟩ := hSn.2.1.four
        have hrp := refPlace_any t2 w23
        rw [HK4.out.1] at hrp
        have hwr := both_write_r hbo HBO.out.2.2.2 k4 hk4b U HK4.out.2.2
        rw [HEi.out] at hwr
        clear hmw hbo hSn hk4
        go_wp2_with fail
        refine hrp.mono ?_
        rintro e w' ⟨rfl, rfl⟩
        clear hrp
        go_wp2_with fail
        refine hwr.mono ?_
        rintro e w24 ⟨rfl, hbo⟩
        have hsim7 := HK4.out.2.1
        generalize writeS _ (k4 : Int) U = s7 at *
        generalize wrTo Ls _ k4 U = Ws7 at *
        have HB7 := Lib.hid (And.intro hbo (And.intro hsim7 HBO.out.2.2.1))
        clear hwr hbo hsim7
        have hcd := both_choose_d HB7.out.1
        have hch := HB7.out.2.1.choose
        rw [hch.1, hch.2] at hcd
        have hcr := fun W' (hb : Both B W5 B s7 q Ls Ws7 W') => both_choose_r hb HB7.out.2.2
        obtain ⟨Ec, hEc⟩ : ∃ E, choE (rdE Ls 0) (rdE Ls 1) (rdB Ls Ws7 0).data.toList (rdB Ls Ws7 1).data.toList = E := ⟨_, rfl⟩
        unfold choV metaV at hcd hcr
        obtain ⟨c0, hc0⟩ : ∃ c, choN (rdE Ls 0) (rdE Ls 1) (rdB Ls Ws7 0).data.toList (rdB Ls Ws7 1).data.toList 0 = c := ⟨_, rfl⟩
        obtain ⟨c1, hc1⟩ : ∃ c, choN (rdE Ls 0) (rdE Ls 1) (rdB Ls Ws7 0).data.toList (rdB Ls Ws7 1).data.toList 1 = c := ⟨_, rfl⟩
        obtain ⟨c2, hc2⟩ : ∃ c, choN (rdE Ls 0) (rdE Ls 1) (rdB Ls Ws7 0).data.toList (rdB Ls Ws7 1).data.toList 2 = c := ⟨_, rfl⟩
        obtain ⟨c3, hc3⟩ : ∃ c, choN (rdE Ls 0) (rdE Ls 1) (rdB Ls Ws7 0).data.toList (rdB Ls Ws7 1).data.toList 3 = c := ⟨_, rfl⟩
        simp only [hEc, hc0, hc1, hc2, hc3] at hcd hcr
        have HCR := Lib.hid hcr
        clear hch hcr hEc hc0 hc1 hc2 hc3
        go_wp2_with fail
        refine hcd.mono ?_
        rintro e w25 ⟨rfl, hbo, -⟩
        have hbo := hbo.below ((Below.refl _ w25).alloc (Nat.le_refl _) (.cells #[.int .i64 c0, .int .i64 c1, .int .i64 c2, .int .i64 c3] 23))
        have hX := Has.made w25 23 #[.int .i64 c0, .int .i64 c1, .int .i64 c2, .int .i64 c3]
        have hcr := HCR.out _ hbo
        have HX := Lib.hid (And.intro hX hbo)
        clear hcd hbo hX HCR HB7
        go_wp2_with fail
        refine hcr.mono ?_
        rintro e w26 ⟨rfl, hbo, hb26⟩
        have hX6 := (HX.out.1.below hb26 HX.out.1.inside).alloc (.cells #[.int .i64 c0, .int .i64 c1, .int .i64 c2, .int .i64 c3] 23)
        have hY6 := Has.made w26 23 #[.int .i64 c0, .int .i64 c1, .int .i64 c2, .int .i64 c3]
        have hbo := hbo.below ((Below.refl _ w26).alloc (Nat.le_refl _) (.cells #[.int .i64 c0, .int .i64 c1, .int .i64 c2, .int .i64 c3] 23))
        have hcn := choose_nil (w26.alloc (.cells #[.int .i64 c0, .int .i64 c1, .int .i64 c2, .int .i64 c3] 23))
        unfold metaV at hcn
        have H6 := Lib.hid (And.intro hX6 (And.intro hY6 hbo))
        clear hcr hbo hX6 hY6 hb26 HX
        go_wp2_with fail
        refine hcn.mono ?_
        rintro e w27 ⟨rfl, hb27⟩
        have hX7 := (H6.out.1.below hb27 H6.out.1.inside).alloc (.cells #[.int .i64 0, .int .i64 0, .int .i64 0, .int .i64 0] 23)
        have hY7 := (H6.out.2.1.below hb27 H6.out.2.1.inside).alloc (.cells #[.int .i64 0, .int .i64 0, .int .i64 0, .int .i64 0] 23)
        have hZ7 := Has.made w27 23 #[.int .i64 0, .int .i64 0, .int .i64 0, .int .i64 0]
        have hbo := (H6.out.2.2.below hb27).below ((Below.refl _ w27).alloc (Nat.le_refl _) (.cells #[.int .i64 0, .int .i64 0, .int .i64 0, .int .i64 0] 23))
        have hal := alive_walk (w27.alloc (.cells #[.int .i64 0, .int .i64 0, .int .i64 0, .int .i64 0] 23))
        have H7 := Lib.hid (And.intro hX7 (And.intro hY7 (And.intro hbo hZ7)))
        clear hcn hX7 hY7 hbo hb27 H6 hZ7
        go_wp2_with fail
        refine hal.mono ?_
        rintro e w28 ⟨rfl, hb28⟩
        have hX8 := H7.out.1.below hb28 H7.out.1.inside
        have hY8 := H7.out.2.1.below hb28 H7.out.2.1.inside
        have hbo := H7.out.2.2.1.below hb28
        have hZ8 := H7.out.2.2.2.below hb28 H7.out.2.2.2.inside
        obtain ⟨⟨z0, z1, z2, z3⟩, -⟩ := hZ8.four
        obtain ⟨⟨l0, l1, l2, l3⟩, -⟩ := hX8.four
        obtain ⟨⟨y0, y1, y2, y3⟩, -⟩ := hY8.four
        have hout := HS5.out.on (show Below W5.heap.size W5 w28 by rw [HB.out]; exact hbo.out)
        have HO := Lib.hid hout.2.2
        clear hal hX8 hY8 hZ8 hbo hout hb28 H7
        go_wp2_with fail
        refine (mwrite_none w28).mono ?_
        rintro e w29 ⟨rfl, hb29⟩
        have HO2 := Lib.hid (HO.out.trans (hb29.mono HO.out.size))
        clear hb29 HO l0 l1 l2 l3 y0 y1 y2 y3 z0 z1 z2 z3
        go_wp2_with fail
        go_ret
        exact ⟨rfl, HO2.out⟩
      · rw [putB, putE, if_neg hok, if_neg hok] at hpm
        clear hSn
        go_wp2_with fail
        refine hpm.mono ?_
        rintro e w22 ⟨rfl, hb22⟩
        have hbo := HBO.out.1.below hb22
        have hSn := HS5.out.on (show Below W5.heap.size W5 w22 by rw [HB.out]; exact hbo.out)
        obtain ⟨⟨n0, n1, n2, n3⟩, -⟩ := hSn.2.1.four
        have hmw := mwrite_bad (.pointer (some ⟨B, 0, none⟩)) t2 r2 f2 x2 w22 ht2 hr2 hf2 hx2 hok
        unfold metaV at hmw
        have HB6 := Lib.hid hbo
        clear hpm hb22 hSn hbo
        go_wp2_with fail
        refine hmw.mono ?_
        rintro e w24 ⟨rfl, hb24⟩
        have hbo := HB6.out.below hb24
        have hsim7 := HBO.out.2.1
        have hll7 := HBO.out.2.2.1
        clear HB6 HBO
        obtain ⟨s7, hs7⟩ : ∃ s7, s6 = s7 := ⟨_, rfl⟩
        obtain ⟨Ws7, hws7⟩ : ∃ Ws7, Ws6 = Ws7 := ⟨_, rfl⟩
        rw [hs7, hws7] at hbo hsim7
        have HB7 := Lib.hid (And.intro hbo (And.intro hsim7 hll7))
        clear hmw hb24 hbo hsim7 hll7 hs7 hws7
        have hcd := both_choose_d HB7.out.1
        have hch := HB7.out.2.1.choose
        rw [hch.1, hch.2] at hcd
        have hcr := fun W' (hb : Both B W5 B s7 q Ls Ws7 W') => both_choose_r hb HB7.out.2.2
        obtain ⟨Ec, hEc⟩ : ∃ E, choE (rdE Ls 0) (rdE Ls 1) (rdB Ls Ws7 0).data.toList (rdB Ls Ws7 1).data.toList = E := ⟨_, rfl⟩
        unfold choV metaV at hcd hcr
        obtain ⟨c0, hc0⟩ : ∃ c, choN (rdE Ls 0) (rdE Ls 1) (rdB Ls Ws7 0).data.toList (rdB Ls Ws7 1).data.toList 0 = c := ⟨_, rfl⟩
        obtain ⟨c1, hc1⟩ : ∃ c, choN (rdE Ls 0) (rdE Ls 1) (rdB Ls Ws7 0).data.toList (rdB Ls Ws7 1).data.toList 1 = c := ⟨_, rfl⟩
        obtain ⟨c2, hc2⟩ : ∃ c, choN (rdE Ls 0) (rdE Ls 1) (rdB Ls Ws7 0).data.toList (rdB Ls Ws7 1).data.toList 2 = c := ⟨_, rfl⟩
        obtain ⟨c3, hc3⟩ : ∃ c, choN (rdE Ls 0) (rdE Ls 1) (rdB Ls Ws7 0).data.toList (rdB Ls Ws7 1).data.toList 3 = c := ⟨_, rfl⟩
        simp only [hEc, hc0, hc1, hc2, hc3] at hcd hcr
        have HCR := Lib.hid hcr
        clear hch hcr hEc hc0 hc1 hc2 hc3
        go_wp2_with fail
        refine hcd.mono ?_
        rintro e w25 ⟨rfl, hbo, -⟩
        have hbo := hbo.below ((Below.refl _ w25).alloc (Nat.le_refl _) (.cells #[.int .i64 c0, .int .i64 c1, .int .i64 c2, .int .i64 c3] 23))
        have hX := Has.made w25 23 #[.int .i64 c0, .int .i64 c1, .int .i64 c2, .int .i64 c3]
        have hcr := HCR.out _ hbo
        have HX := Lib.hid (And.intro hX hbo)
        clear hcd hbo hX HCR HB7
        go_wp2_with fail
        refine hcr.mono ?_
        rintro e w26 ⟨rfl, hbo, hb26⟩
        have hX6 := (HX.out.1.below hb26 HX.out.1.inside).alloc (.cells #[.int .i64 c0, .int .i64 c1, .int .i64 c2, .int .i64 c3] 23)
        have hY6 := Has.made w26 23 #[.int .i64 c0, .int .i64 c1, .int .i64 c2, .int .i64 c3]
        have hbo := hbo.below ((Below.refl _ w26).alloc (Nat.le_refl _) (.cells #[.int .i64 c0, .int .i64 c1, .int .i64 c2, .int .i64 c3] 23))
        have hcn := choose_nil (w26.alloc (.cells #[.int .i64 c0, .int .i64 c1, .int .i64 c2, .int .i64 c3] 23))
        unfold metaV at hcn
        have H6 := Lib.hid (And.intro hX6 (And.intro hY6 hbo))
        clear hcr hbo hX6 hY6 hb26 HX
        go_wp2_with fail
        refine hcn.mono ?_
        rintro e w27 ⟨rfl, hb27⟩
        have hX7 := (H6.out.1.below hb27 H6.out.1.inside).alloc (.cells #[.int .i64 0, .int .i64 0, .int .i64 0, .int .i64 0] 23)
        have hY7 := (H6.out.2.1.below hb27 H6.out.2.1.inside).alloc (.cells #[.int .i64 0, .int .i64 0, .int .i64 0, .int .i64 0] 23)
        have hZ7 := Has.made w27 23 #[.int .i64 0, .int .i64 0, .int .i64 0, .int .i64 0]
        have hbo := (H6.out.2.2.below hb27).below ((Below.refl _ w27).alloc (Nat.le_refl _) (.cells #[.int .i64 0, .int .i64 0, .int .i64 0, .int .i64 0] 23))
        have hal := alive_walk (w27.alloc (.cells #[.int .i64 0, .int .i64 0, .int .i64 0, .int .i64 0] 23))
        have H7 := Lib.hid (And.intro hX7 (And.intro hY7 (And.intro hbo hZ7)))
        clear hcn hX7 hY7 hbo hb27 H6 hZ7
        go_wp2_with fail
        refine hal.mono ?_
        rintro e w28 ⟨rfl, hb28⟩
        have hX8 := H7.out.1.below hb28 H7.out.1.inside
        have hY8 := H7.out.2.1.below hb28 H7.out.2.1.inside
        have hbo := H7.out.2.2.1.below hb28
        have hZ8 := H7.out.2.2.2.below hb28 H7.out.2.2.2.inside
        obtain ⟨⟨z0, z1, z2, z3⟩, -⟩ := hZ8.four
        obtain ⟨⟨l0, l1, l2, l3⟩, -⟩ := hX8.four
        obtain ⟨⟨y0, y1, y2, y3⟩, -⟩ := hY8.four
        have hout := HS5.out.on (show Below W5.heap.size W5 w28 by rw [HB.out]; exact hbo.out)
        have HO := Lib.hid hout.2.2
        clear hal hX8 hY8 hZ8 hbo hout hb28 H7
        go_wp2_with fail
        refine (mwrite_none w28).mono ?_
        rintro e w29 ⟨rfl, hb29⟩
        have HO2 := Lib.hid (HO.out.trans (hb29.mono HO.out.size))
        clear hb29 HO l0 l1 l2 l3 y0 y1 y2 y3 z0 z1 z2 z3
        go_wp2_with fail
        go_ret
        exact ⟨rfl, HO2.out⟩
    · have e3 : ((b.size : Int) == 256) = false := by rw [beq_eq_false_iff_ne]; omega
      obtain ⟨hbo, hsim, hll⟩ := HBO.out
      obtain ⟨Ws6, hws⟩ : ∃ Ws6 : List (Int × ByteArray), [] = Ws6 := ⟨_, rfl⟩
      have hwl : Ws6.length ≤ 1 := by rw [← hws]; simp
      rw [hws] at hbo hsim
      have HBO2 := Lib.hid (And.intro hbo (And.intro hsim (And.intro hll hwl)))
      clear hbo hsim hll hwl hws HBO
      have hSn := HS5.out.on (show Below W5.heap.size W5 w19 by rw [HB.out]; exact HBO2.out.1.out)
      obtain ⟨⟨n0, n1, n2, n3⟩, -⟩ := hSn.2.1.four
      have hpm := refPutMeta_any t2 r2 f2 x2 w19 ht2 hr2 hf2 hx2
      unfold metaV at hpm
      by_cases hok : MetaOK t2 r2 f2 x2
      · rw [putB, putE, if_pos hok, if_pos hok] at hpm
        have hmB : (⟨(mpage t2.toNat r2.toNat f2.toNat x2.toNat).toArray⟩ : ByteArray) = mB t2 r2 f2 x2 := rfl
        rw [hmB] at hpm
        clear hSn
        go_wp2_with fail
        refine hpm.mono ?_
        rintro e w22 ⟨rfl, hb22⟩
        have hbo := HBO2.out.1.below hb22
        have hSn := HS5.out.on (show Below W5.heap.size W5 w22 by rw [HB.out]; exact hbo.out)
        obtain ⟨⟨n0, n1, n2, n3⟩, -⟩ := hSn.2.1.four
        obtain ⟨k4, hk4⟩ : ∃ k : Nat, t2 % 2 = k := ⟨(t2 % 2).toNat, by omega⟩
        have hk4b : k4 ≤ 1 := by omega
        have hmw := both_mwrite_d hbo (by have := HBO2.out.2.1.cap.1; omega) t2 r2 f2 x2 ht2 hr2 hf2 hx2 hok
        obtain ⟨f1, f2'⟩ := HBO2.out.2.1.write (by have := HBO2.out.2.2.2; omega) k4 (mB t2 r2 f2 x2) (mB_size _ _ _ _)
        obtain ⟨Ei, hEi⟩ : ∃ Ei : Int, (if k4 < Ls.length then 0 else 3) = Ei := ⟨_, rfl⟩
        rw [hk4, f1, hEi] at hmw
        have HEi := Lib.hid hEi
        clear hEi
        unfold metaV at hmw
        have hz4 := mB_size t2 r2 f2 x2
        have HK4 := Lib.hid (And.intro hk4 (And.intro f2' hz4))
        clear hpm hb22 hSn hbo hmB f1 f2' hz4
        generalize mB t2 r2 f2 x2 = U at *
        go_wp2_with fail
        refine hmw.mono ?_
        rintro e w23 ⟨rfl, hbo⟩
        have hSn := HS5.out.on (show Below W5.heap.size W5 w23 by rw [HB.out]; exact hbo.out)
        obtain ⟨⟨n0, n1, n2, n3⟩, -⟩ := hSn.2.1.four
        have hrp := refPlace_any t2 w23
        rw [HK4.out.1] at hrp
        have hwr := both_write_r hbo HBO2.out.2.2.2 k4 hk4b U HK4.out.2.2
        rw [HEi.out] at hwr
        clear hmw hbo hSn hk4
        go_wp2_with fail
        refine hrp.mono ?_
        rintro e w' ⟨rfl, rfl⟩
        clear hrp
        go_wp2_with fail
        refine hwr.mono ?_
        rintro e w24 ⟨rfl, hbo⟩
        have hsim7 := HK4.out.2.1
        generalize writeS _ (k4 : Int) U = s7 at *
        generalize wrTo Ls _ k4 U = Ws7 at *
        have HB7 := Lib.hid (And.intro hbo (And.intro hsim7 HBO2.out.2.2.1))
        clear hwr hbo hsim7
        have hcd := both_choose_d HB7.out.1
        have hch := HB7.out.2.1.choose
        rw [hch.1, hch.2] at hcd
        have hcr := fun W' (hb : Both B W5 B s7 q Ls Ws7 W') => both_choose_r hb HB7.out.2.2
        obtain ⟨Ec, hEc⟩ : ∃ E, choE (rdE Ls 0) (rdE Ls 1) (rdB Ls Ws7 0).data.toList (rdB Ls Ws7 1).data.toList = E := ⟨_, rfl⟩
        unfold choV metaV at hcd hcr
        obtain ⟨c0, hc0⟩ : ∃ c, choN (rdE Ls 0) (rdE Ls 1) (rdB Ls Ws7 0).data.toList (rdB Ls Ws7 1).data.toList 0 = c := ⟨_, rfl⟩
        obtain ⟨c1, hc1⟩ : ∃ c, choN (rdE Ls 0) (rdE Ls 1) (rdB Ls Ws7 0).data.toList (rdB Ls Ws7 1).data.toList 1 = c := ⟨_, rfl⟩
        obtain ⟨c2, hc2⟩ : ∃ c, choN (rdE Ls 0) (rdE Ls 1) (rdB Ls Ws7 0).data.toList (rdB Ls Ws7 1).data.toList 2 = c := ⟨_, rfl⟩
        obtain ⟨c3, hc3⟩ : ∃ c, choN (rdE Ls 0) (rdE Ls 1) (rdB Ls Ws7 0).data.toList (rdB Ls Ws7 1).data.toList 3 = c := ⟨_, rfl⟩
        simp only [hEc, hc0, hc1, hc2, hc3] at hcd hcr
        have HCR := Lib.hid hcr
        clear hch hcr hEc hc0 hc1 hc2 hc3
        go_wp2_with fail
        refine hcd.mono ?_
        rintro e w25 ⟨rfl, hbo, -⟩
        have hbo := hbo.below ((Below.refl _ w25).alloc (Nat.le_refl _) (.cells #[.int .i64 c0, .int .i64 c1, .int .i64 c2, .int .i64 c3] 23))
        have hX := Has.made w25 23 #[.int .i64 c0, .int .i64 c1, .int .i64 c2, .int .i64 c3]
        have hcr := HCR.out _ hbo
        have HX := Lib.hid (And.intro hX hbo)
        clear hcd hbo hX HCR HB7
        go_wp2_with fail
        refine hcr.mono ?_
        rintro e w26 ⟨rfl, hbo, hb26⟩
        have hX6 := (HX.out.1.below hb26 HX.out.1.inside).alloc (.cells #[.int .i64 c0, .int .i64 c1, .int .i64 c2, .int .i64 c3] 23)
        have hY6 := Has.made w26 23 #[.int .i64 c0, .int .i64 c1, .int .i64 c2, .int .i64 c3]
        have hbo := hbo.below ((Below.refl _ w26).alloc (Nat.le_refl _) (.cells #[.int .i64 c0, .int .i64 c1, .int .i64 c2, .int .i64 c3] 23))
        have hcn := choose_nil (w26.alloc (.cells #[.int .i64 c0, .int .i64 c1, .int .i64 c2, .int .i64 c3] 23))
        unfold metaV at hcn
        have H6 := Lib.hid (And.intro hX6 (And.intro hY6 hbo))
        clear hcr hbo hX6 hY6 hb26 HX
        go_wp2_with fail
        refine hcn.mono ?_
        rintro e w27 ⟨rfl, hb27⟩
        have hX7 := (H6.out.1.below hb27 H6.out.1.inside).alloc (.cells #[.int .i64 0, .int .i64 0, .int .i64 0, .int .i64 0] 23)
        have hY7 := (H6.out.2.1.below hb27 H6.out.2.1.inside).alloc (.cells #[.int .i64 0, .int .i64 0, .int .i64 0, .int .i64 0] 23)
        have hZ7 := Has.made w27 23 #[.int .i64 0, .int .i64 0, .int .i64 0, .int .i64 0]
        have hbo := (H6.out.2.2.below hb27).below ((Below.refl _ w27).alloc (Nat.le_refl _) (.cells #[.int .i64 0, .int .i64 0, .int .i64 0, .int .i64 0] 23))
        have hal := alive_walk (w27.alloc (.cells #[.int .i64 0, .int .i64 0, .int .i64 0, .int .i64 0] 23))
        have H7 := Lib.hid (And.intro hX7 (And.intro hY7 (And.intro hbo hZ7)))
        clear hcn hX7 hY7 hbo hb27 H6 hZ7
        go_wp2_with fail
        refine hal.mono ?_
        rintro e w28 ⟨rfl, hb28⟩
        have hX8 := H7.out.1.below hb28 H7.out.1.inside
        have hY8 := H7.out.2.1.below hb28 H7.out.2.1.inside
        have hbo := H7.out.2.2.1.below hb28
        have hZ8 := H7.out.2.2.2.below hb28 H7.out.2.2.2.inside
        obtain ⟨⟨z0, z1, z2, z3⟩, -⟩ := hZ8.four
        obtain ⟨⟨l0, l1, l2, l3⟩, -⟩ := hX8.four
        obtain ⟨⟨y0, y1, y2, y3⟩, -⟩ := hY8.four
        have hout := HS5.out.on (show Below W5.heap.size W5 w28 by rw [HB.out]; exact hbo.out)
        have HO := Lib.hid hout.2.2
        clear hal hX8 hY8 hZ8 hbo hout hb28 H7
        go_wp2_with fail
        refine (mwrite_none w28).mono ?_
        rintro e w29 ⟨rfl, hb29⟩
        have HO2 := Lib.hid (HO.out.trans (hb29.mono HO.out.size))
        clear hb29 HO l0 l1 l2 l3 y0 y1 y2 y3 z0 z1 z2 z3
        go_wp2_with fail
        go_ret
        exact ⟨rfl, HO2.out⟩
      · rw [putB, putE, if_neg hok, if_neg hok] at hpm
        clear hSn
        go_wp2_with fail
        refine hpm.mono ?_
        rintro e w22 ⟨rfl, hb22⟩
        have hbo := HBO2.out.1.below hb22
        have hSn := HS5.out.on (show Below W5.heap.size W5 w22 by rw [HB.out]; exact hbo.out)
        obtain ⟨⟨n0, n1, n2, n3⟩, -⟩ := hSn.2.1.four
        have hmw := mwrite_bad (.pointer (some ⟨B, 0, none⟩)) t2 r2 f2 x2 w22 ht2 hr2 hf2 hx2 hok
        unfold metaV at hmw
        have HB6 := Lib.hid hbo
        clear hpm hb22 hSn hbo
        go_wp2_with fail
        refine hmw.mono ?_
        rintro e w24 ⟨rfl, hb24⟩
        have hbo := HB6.out.below hb24
        have hsim7 := HBO2.out.2.1
        have hll7 := HBO2.out.2.2.1
        clear HB6 HBO2
        obtain ⟨s7, hs7⟩ : ∃ s7, s5 = s7 := ⟨_, rfl⟩
        obtain ⟨Ws7, hws7⟩ : ∃ Ws7, Ws6 = Ws7 := ⟨_, rfl⟩
        rw [hs7, hws7] at hbo hsim7
        have HB7 := Lib.hid (And.intro hbo (And.intro hsim7 hll7))
        clear hmw hb24 hbo hsim7 hll7 hs7 hws7
        have hcd := both_choose_d HB7.out.1
        have hch := HB7.out.2.1.choose
        rw [hch.1, hch.2] at hcd
        have hcr := fun W' (hb : Both B W5 B s7 q Ls Ws7 W') => both_choose_r hb HB7.out.2.2
        obtain ⟨Ec, hEc⟩ : ∃ E, choE (rdE Ls 0) (rdE Ls 1) (rdB Ls Ws7 0).data.toList (rdB Ls Ws7 1).data.toList = E := ⟨_, rfl⟩
        unfold choV metaV at hcd hcr
        obtain ⟨c0, hc0⟩ : ∃ c, choN (rdE Ls 0) (rdE Ls 1) (rdB Ls Ws7 0).data.toList (rdB Ls Ws7 1).data.toList 0 = c := ⟨_, rfl⟩
        obtain ⟨c1, hc1⟩ : ∃ c, choN (rdE Ls 0) (rdE Ls 1) (rdB Ls Ws7 0).data.toList (rdB Ls Ws7 1).data.toList 1 = c := ⟨_, rfl⟩
        obtain ⟨c2, hc2⟩ : ∃ c, choN (rdE Ls 0) (rdE Ls 1) (rdB Ls Ws7 0).data.toList (rdB Ls Ws7 1).data.toList 2 = c := ⟨_, rfl⟩
        obtain ⟨c3, hc3⟩ : ∃ c, choN (rdE Ls 0) (rdE Ls 1) (rdB Ls Ws7 0).data.toList (rdB Ls Ws7 1).data.toList 3 = c := ⟨_, rfl⟩
        simp only [hEc, hc0, hc1, hc2, hc3] at hcd hcr
        have HCR := Lib.hid hcr
        clear hch hcr hEc hc0 hc1 hc2 hc3
        go_wp2_with fail
        refine hcd.mono ?_
        rintro e w25 ⟨rfl, hbo, -⟩
        have hbo := hbo.below ((Below.refl _ w25).alloc (Nat.le_refl _) (.cells #[.int .i64 c0, .int .i64 c1, .int .i64 c2, .int .i64 c3] 23))
        have hX := Has.made w25 23 #[.int .i64 c0, .int .i64 c1, .int .i64 c2, .int .i64 c3]
        have hcr := HCR.out _ hbo
        have HX := Lib.hid (And.intro hX hbo)
        clear hcd hbo hX HCR HB7
        go_wp2_with fail
        refine hcr.mono ?_
        rintro e w26 ⟨rfl, hbo, hb26⟩
        have hX6 := (HX.out.1.below hb26 HX.out.1.inside).alloc (.cells #[.int .i64 c0, .int .i64 c1, .int .i64 c2, .int .i64 c3] 23)
        have hY6 := Has.made w26 23 #[.int .i64 c0, .int .i64 c1, .int .i64 c2, .int .i64 c3]
        have hbo := hbo.below ((Below.refl _ w26).alloc (Nat.le_refl _) (.cells #[.int .i64 c0, .int .i64 c1, .int .i64 c2, .int .i64 c3] 23))
        have hcn := choose_nil (w26.alloc (.cells #[.int .i64 c0, .int .i64 c1, .int .i64 c2, .int .i64 c3] 23))
        unfold metaV at hcn
        have H6 := Lib.hid (And.intro hX6 (And.intro hY6 hbo))
        clear hcr hbo hX6 hY6 hb26 HX
        go_wp2_with fail
        refine hcn.mono ?_
        rintro e w27 ⟨rfl, hb27⟩
        have hX7 := (H6.out.1.below hb27 H6.out.1.inside).alloc (.cells #[.int .i64 0, .int .i64 0, .int .i64 0, .int .i64 0] 23)
        have hY7 := (H6.out.2.1.below hb27 H6.out.2.1.inside).alloc (.cells #[.int .i64 0, .int .i64 0, .int .i64 0, .int .i64 0] 23)
        have hZ7 := Has.made w27 23 #[.int .i64 0, .int .i64 0, .int .i64 0, .int .i64 0]
        have hbo := (H6.out.2.2.below hb27).below ((Below.refl _ w27).alloc (Nat.le_refl _) (.cells #[.int .i64 0, .int .i64 0, .int .i64 0, .int .i64 0] 23))
        have hal := alive_walk (w27.alloc (.cells #[.int .i64 0, .int .i64 0, .int .i64 0, .int .i64 0] 23))
        have H7 := Lib.hid (And.intro hX7 (And.intro hY7 (And.intro hbo hZ7)))
        clear hcn hX7 hY7 hbo hb27 H6 hZ7
        go_wp2_with fail
        refine hal.mono ?_
        rintro e w28 ⟨rfl, hb28⟩
        have hX8 := H7.out.1.below hb28 H7.out.1.inside
        have hY8 := H7.out.2.1.below hb28 H7.out.2.1.inside
        have hbo := H7.out.2.2.1.below hb28
        have hZ8 := H7.out.2.2.2.below hb28 H7.out.2.2.2.inside
        obtain ⟨⟨z0, z1, z2, z3⟩, -⟩ := hZ8.four
        obtain ⟨⟨l0, l1, l2, l3⟩, -⟩ := hX8.four
        obtain ⟨⟨y0, y1, y2, y3⟩, -⟩ := hY8.four
        have hout := HS5.out.on (show Below W5.heap.size W5 w28 by rw [HB.out]; exact hbo.out)
        have HO := Lib.hid hout.2.2
        clear hal hX8 hY8 hZ8 hbo hout hb28 H7
        go_wp2_with fail
        refine (mwrite_none w28).mono ?_
        rintro e w29 ⟨rfl, hb29⟩
        have HO2 := Lib.hid (HO.out.trans (hb29.mono HO.out.size))
        clear hb29 HO l0 l1 l2 l3 y0 y1 y2 y3 z0 z1 z2 z3
        go_wp2_with fail
        go_ret
        exact ⟨rfl, HO2.out⟩

set_option maxRecDepth 1000000 in
set_option maxHeartbeats 2000000 in
theorem walk_heavy (w : World) (t r f x t2 r2 f2 x2 page : Int) (b : ByteArray) (hb : 3000 < b.size) (at_ by_ which : Int) :
    Calls Tryd.prog 3 #[metaV t r f x, metaV t2 r2 f2 x2, .int .i64 page, .string b, .int .i64 at_, .int .i64 by_, .int .i64 which] w fun e w' => e = .returned (.bool true) ∧ Below w.heap.size w w' := by
  have g1 : decide ((3000 : Int) < (b.size : Int)) = true := by simp; omega
  have hal := alive_walk ((w.alloc (.cells #[.int .i64 t, .int .i64 r, .int .i64 f, .int .i64 x] 23)).alloc (.cells #[.int .i64 t2, .int .i64 r2, .int .i64 f2, .int .i64 x2] 23))
  have hB : Below w.heap.size w ((w.alloc (.cells #[.int .i64 t, .int .i64 r, .int .i64 f, .int .i64 x] 23)).alloc (.cells #[.int .i64 t2, .int .i64 r2, .int .i64 f2, .int .i64 x2] 23)) := ((Below.refl _ _).alloc (Nat.le_refl _) _).alloc (by simp) _
  have HB := Lib.hid hB
  unfold metaV
  clear hb hB
  go_enter Tryd.func3, Tryd.ntmps3
  go_wp2_with fail
  refine hal.mono ?_
  rintro e w1 ⟨rfl, hb1⟩
  have HB1 := Lib.hid (HB.out.trans (hb1.mono HB.out.size))
  clear hal hb1
  go_wp2_with fail
  go_ret
  exact ⟨rfl, HB1.out⟩

theorem walk (w : World) (t r f x : Int) (ht : IsInt t) (hr : IsInt r) (hf : IsInt f) (hx : IsInt x) (t2 r2 f2 x2 : Int) (ht2 : IsInt t2) (hr2 : IsInt r2) (hf2 : IsInt f2) (hx2 : IsInt x2) (page : Int) (hpg : IsInt page) (b : ByteArray) (_hb : b.size ≤ 9223372036854775807) (at_ : Int) (_ha : IsInt at_) (by_ : Int) (_hy : IsInt by_) (which : Int) (_hw : IsInt which) :
    Calls Tryd.prog 3 #[.agg #[.int .i64 t, .int .i64 r, .int .i64 f, .int .i64 x], .agg #[.int .i64 t2, .int .i64 r2, .int .i64 f2, .int .i64 x2], .int .i64 page, .string b, .int .i64 at_, .int .i64 by_, .int .i64 which] w fun e w' => e = .returned (.bool true) ∧ Below w.heap.size w w' := by
  by_cases h : 3000 < b.size
  · exact walk_heavy w t r f x t2 r2 f2 x2 page b h at_ by_ which
  · exact walk_whole w t r f x ht hr hf hx t2 r2 f2 x2 ht2 hr2 hf2 hx2 page hpg b (by omega) at_ by_ which

set_option maxRecDepth 100000 in
theorem contract (H : Type) (enc : TypeId × Value → H) (W : World) (base : Nat) (args : Array Value) (ds gs : List (DataW H)) (before : List MemPlace)
    (hval : ∀ (j : Nat) t v, Tryd.f3.params[j]? = some t → args[j]? = some v → Value.okWide Tryd.prog W .any base t v)
    (hW : DataW.Whole enc Tryd.prog Tryd.f3.params.toList Rows.metaTellsSpec.vars false W args.toList ds gs before) (_hL : laidMetH Tryd.prog Rows.metaTellsRow.laid W) :
    Calls Tryd.prog 3 args W fun e W' => ∃ v, e = .returned v ∧ Rows.metaTellsSpec.post enc Tryd.prog Tryd.f3 false true false false W args v W' := by
  have hW' := hW
  obtain ⟨p, q, hA0, hV, rfl, hfz, hnd⟩ := hW
  have hA : DataW.TrodAll enc Tryd.prog W 0 (fun _ => true) true Tryd.f3.params.toList args.toList ds p := hA0
  rw [Tryd.params3] at hA hval
  obtain ⟨v0, vs0, d0, ds0, p0, q0, hargs, rfl, rfl, h0, r00⟩ := trodAll_cons hA
  obtain ⟨v1, vs1, d1, ds1, p1, q1, rfl, rfl, rfl, h1, r01⟩ := trodAll_cons r00
  obtain ⟨v2, vs2, d2, ds2, p2, q2, rfl, rfl, rfl, h2, r02⟩ := trodAll_cons r01
  obtain ⟨v3, vs3, d3, ds3, p3, q3, rfl, rfl, rfl, h3, r03⟩ := trodAll_cons r02
  obtain ⟨v4, vs4, d4, ds4, p4, q4, rfl, rfl, rfl, h4, r04⟩ := trodAll_cons r03
  obtain ⟨v5, vs5, d5, ds5, p5, q5, rfl, rfl, rfl, h5, r05⟩ := trodAll_cons r04
  obtain ⟨v6, vs6, d6, ds6, p6, q6, rfl, rfl, rfl, h6, r06⟩ := trodAll_cons r05
  obtain ⟨rfl, rfl, rfl⟩ := trodAll_nil r06
  obtain rfl : args = #[v0, v1, v2, v3, v4, v5, v6] := by cases args; simp_all
  obtain ⟨rfl, rfl⟩ := trodVars_none hV
  obtain ⟨ka0, kb0, kc0, kd0, rfl, rfl, rfl, wa0, wb0, wc0, wd0⟩ := open_meta (hval 0 23 v0 rfl rfl) h0
  obtain ⟨ka1, kb1, kc1, kd1, rfl, rfl, rfl, wa1, wb1, wc1, wd1⟩ := open_meta (hval 1 23 v1 rfl rfl) h1
  obtain ⟨n2, rfl, rfl, rfl, w2⟩ := open_int Tryd.underlying3 (hval 2 3 v2 rfl rfl) h2
  obtain ⟨s3, rfl, rfl, rfl, z3⟩ := Go.ChangeMaps.open_string Tryd.underlying9 (hval 3 9 v3 rfl rfl) h3
  obtain ⟨n4, rfl, rfl, rfl, w4⟩ := open_int Tryd.underlying3 (hval 4 3 v4 rfl rfl) h4
  obtain ⟨n5, rfl, rfl, rfl, w5⟩ := open_int Tryd.underlying3 (hval 5 3 v5 rfl rfl) h5
  obtain ⟨n6, rfl, rfl, rfl, w6⟩ := open_int Tryd.underlying3 (hval 6 3 v6 rfl rfl) h6
  clear hA0
  refine (walk W ka0 kb0 kc0 kd0 (isInt_of_wf wa0) (isInt_of_wf wb0) (isInt_of_wf wc0) (isInt_of_wf wd0) ka1 kb1 kc1 kd1 (isInt_of_wf wa1) (isInt_of_wf wb1) (isInt_of_wf wc1) (isInt_of_wf wd1) n2 (isInt_of_wf w2) s3 (le_of_maxLen z3) n4 (isInt_of_wf w4) n5 (isInt_of_wf w5) n6 (isInt_of_wf w6)).mono fun e W' ⟨he, hb⟩ => ?_
  subst he
  exact ⟨_, rfl, law_post hW' rfl rfl (by kernel_rfl) (by kernel_rfl) hb⟩

theorem reads (os : Os) {H : Type} (enc : TypeId × Value → H) : ∃ places, DataW.whole enc Tryd.prog ((laidWorld os).forCall (fun _ _ => 0) ⟨#[], #[.agg #[.int .i64 0, .int .i64 0, .int .i64 0, .int .i64 0], .agg #[.int .i64 0, .int .i64 0, .int .i64 0, .int .i64 0], .int .i64 0, .string ByteArray.empty, .int .i64 0, .int .i64 0, .int .i64 0], []⟩).memory Tryd.f3.params.toList Rows.metaTellsSpec.vars false (#[.agg #[.int .i64 0, .int .i64 0, .int .i64 0, .int .i64 0], .agg #[.int .i64 0, .int .i64 0, .int .i64 0, .int .i64 0], .int .i64 0, .string ByteArray.empty, .int .i64 0, .int .i64 0, .int .i64 0] : Array Value).toList 8 = some ([.agg [.lit (.int .i64 0), .lit (.int .i64 0), .lit (.int .i64 0), .lit (.int .i64 0)], .agg [.lit (.int .i64 0), .lit (.int .i64 0), .lit (.int .i64 0), .lit (.int .i64 0)], .lit (.int .i64 0), .lit (.string []), .lit (.int .i64 0), .lit (.int .i64 0), .lit (.int .i64 0)], [], places) :=
  ⟨[], by kernel_rfl⟩

set_option maxRecDepth 100000 in
theorem lifted (os : Os) (started : os.Started) (H : Type) (enc : TypeId × Value → H) (F : Stop.Interp) :
    ReturnsInHanded {} Tryd.checked os 3 .any ((OpenSpec.ofChange Rows.metaTellsSpec).preRow enc Tryd.prog Tryd.f3 Rows.metaTellsRow.domain false Rows.metaTellsRow.laid) (((OpenSpec.ofChange Rows.metaTellsSpec).at F).post enc Tryd.prog Tryd.f3 false true false false) := by
  obtain ⟨places, hx⟩ := reads os enc
  refine returnsInHanded_of_row (C := Tryd.checked) (s := OpenSpec.ofChange Rows.metaTellsSpec) own started (by kernel_rfl) Tryd.func3
    (witness_row_at (enc := enc) (C := Tryd.checked) false (laidWorld os) #[.agg #[.int .i64 0, .int .i64 0, .int .i64 0, .int .i64 0], .agg #[.int .i64 0, .int .i64 0, .int .i64 0, .int .i64 0], .int .i64 0, .string ByteArray.empty, .int .i64 0, .int .i64 0, .int .i64 0] (laid_os os) (by kernel_rfl) (by kernel_rfl) (by kernel_rfl)
      (OpenSpec.preRow_of_cond 8 hx (by kernel_rfl) (fun k hk => by cases hk) (by kernel_rfl) (laid_met os _))) ?_
  intro W base args ds gs before hval hW _ _ _ hL _ _
  exact contract H enc W base args ds gs before hval hW hL

set_option maxRecDepth 100000 in
theorem said : Rows.MetaTellsSaid :=
  OpenClaim.holds_of_cond 3 Tryd.f3 rfl rfl rfl rfl rfl rfl rfl ⟨rfl, rfl, rfl, rfl, rfl⟩ rfl rfl rfl rfl rfl (by kernel_rfl) Tryd.func3 (by kernel_rfl)
    (of_decide_eq_true (by kernel_rfl)) (by unfold Func.isWrapper; first | (rw [if_pos (by decide +kernel)]; kernel_rfl) | (rw [if_neg (by decide +kernel)]; exact ⟨rfl, rfl⟩))
    (fun os started H enc _ F => by rw [OpenClaim.pre_eq_preRow]; exact lifted os started H enc F)

set_option maxRecDepth 100000 in
theorem plain (f : FuncId) (fn : Func) (hf : Tryd.pinned.checked.prog.funcNamed "arboretum/arboretumlaw5.MetaTells" = some f) (hfn : Tryd.pinned.checked.prog.funcs[f]? = some fn) :
    false = Tryd.pinned.checked.prog.looks [] ∧ ∀ (j : Nat) t, fn.params[j]? = some t → Tryd.pinned.checked.prog.wantsStandIn t = false := by
  obtain rfl : f = 3 := Option.some.inj ((show Tryd.prog.funcNamed "arboretum/arboretumlaw5.MetaTells" = some 3 by kernel_rfl).symm.trans hf) |>.symm
  obtain rfl : fn = Tryd.f3 := (Option.some.inj (Tryd.func3.symm.trans hfn)).symm
  refine ⟨by kernel_rfl, fun j t ht => ?_⟩
  rw [Tryd.params3] at ht
  have hm : t ∈ [23, 23, 3, 9, 3, 3, 3] := by simpa using Array.mem_of_getElem? ht
  have hall : ([23, 23, 3, 9, 3, 3, 3].all fun u => !Tryd.prog.wantsStandIn u) = true := by kernel_rfl
  exact (show Tryd.prog.wantsStandIn t = false by simpa using List.all_eq_true.1 hall t hm)

theorem card : Rows.MetaTellsCardSaid :=
  Claim7.holds_tied_plain_at .later [] _ _ _ _ said (fun _ h => by cases h) (by kernel_rfl) (fun _ h => by cases h) metaTells_row_tie rfl ⟨rfl, rfl⟩ (by kernel_rfl) rfl plain (by kernel_rfl)

end Go.Proofs.YthcpjpebahiikaaDoor.metaTells
