/-
  BranchTells (P901, P902): children as bytes, bytes as children, all answers as the document's own, lists that are kept, marked and grown. For every children, every bytes, every key and every place.
-/
import Derived.Test.YtpfifmjcmpankaaGreatMg27
import Derived.Test.YtpfifmjcmpankaaGreatMg44
import Derived.Test.YtpfifmjcmpankaaGreatMg46
import Derived.Laws.Cover1
namespace Go.Proofs.YtpfifmjcmpankaaGreat.BR.branchTells
open Go.ChangeShapes Go.WideShapes Go.ChangeAt Go.RowKit Go.Proofs.YtpfifmjcmpankaaGreat.BR.BC

set_option maxRecDepth 100000 in
set_option maxHeartbeats 8000000 in
theorem walk (w : World) (v0 : Value) (l : List Chd) (hr : ReadsIt w w.heap.size v0 l) (hok : ∀ x ∈ l, x.ok) (v1 : Value) (x : List Chd) (hrx : ReadsIt w w.heap.size v1 x) (hokx : ∀ y ∈ x, y.ok) (b : ByteArray) (hb : b.size ≤ 9223372036854775807) (key : ByteArray) (hkey : key.size ≤ 9223372036854775807) (i : Int) (hi : IsInt i) :
    Calls Tryz.prog 4 #[v0, v1, .string b, .string key, .int .i64 i] w fun e w' => e = .returned (.bool true) ∧ Below w.heap.size w w' := by
  have hsm := small_any v0 l w hr (fun y hy => (hok y hy).1)
  have hsx := fun W (hb : Below w.heap.size w W) => small_any v1 x W (hrx.grow hb hb.size) (fun y hy => (hokx y hy).1)
  have HAL := Lib.hid (fun W => alive9_any W)
  have HSX := Lib.hid hsx
  have HR := Lib.hid (And.intro hr (And.intro hok (And.intro hrx (And.intro hokx (And.intro hi (And.intro hb hkey))))))
  clear hsx hr hok hrx hokx
  go_enter Tryz.func4, Tryz.ntmps4
  go_wp2_with fail
  refine hsm.mono ?_
  rintro e w1 ⟨B, rfl, hsb, hb1⟩
  clear hsm
  cases B
  · have HBB := Lib.hid hb1
    clear HSX hb1 hsb
    go_wp2_with fail
    refine (HAL.out _).mono ?_
    rintro e wa ⟨rfl, hba⟩
    have HZ := Lib.hid (HBB.out.trans (hba.mono HBB.out.size))
    clear hba
    go_wp2_with fail
    go_ret
    exact ⟨rfl, HZ.out⟩
  · obtain ⟨hl100, hl9⟩ := hsb rfl
    clear hsb
    go_wp2_with fail
    refine (HSX.out _ hb1).mono ?_
    rintro e w2 ⟨B, rfl, hsb, hb2⟩
    have HBB := Lib.hid (hb1.trans (hb2.mono hb1.size))
    clear hb1 hb2 HSX
    cases B
    · clear hsb
      go_wp2_with fail
      refine (HAL.out _).mono ?_
      rintro e wa ⟨rfl, hba⟩
      have HZ := Lib.hid (HBB.out.trans (hba.mono HBB.out.size))
      clear hba
      go_wp2_with fail
      go_ret
      exact ⟨rfl, HZ.out⟩
    · obtain ⟨hx100, hx9⟩ := hsb rfl
      clear hsb
      by_cases hbs : (b.size : Int) ≤ 3000
      · by_cases hks : (key.size : Int) ≤ 3000
        · have HNUM := Lib.hid (And.intro hl100 (And.intro hl9 (And.intro hx100 (And.intro hx9 (And.intro hbs hks)))))
          clear hl100 hl9 hx100 hx9
          have HBK := Lib.hid (Bk.new HBB.out HBB.out.size)
          clear HBB
          go_wp2_with fail
          have hpp : ∃ P, w2.heap.size = P := ⟨_, rfl⟩
          go_loopg [12] 2 (fun g iv wr => ∃ k : Nat, iv = .int .i64 k ∧ k + g = 2 ∧ Bk w.heap.size w wr w2.heap.size k)
          case atStart => exact ⟨0, rfl, rfl, HBK.out⟩
          case round =>
            clear HBK
            obtain ⟨k, rfl, hkg, hbk⟩ := hrel
            have HB0 := Lib.hid hbk
            have HG := Lib.hid hkg
            clear hbk hpp
            by_cases hlt : k < 2
            · have hltI : (k : Int) < 2 := by omega
              have hfl : ∀ y ∈ l, y.fair := fun y hy => ⟨by have := sizesI_mem hy; have := HNUM.out.2.1; omega, (HR.out.2.1 y hy).2⟩
              have hfx : ∀ y ∈ x, y.key.size ≤ 281474976710656 := fun y hy => by have := sizesI_mem hy; have := HNUM.out.2.2.2.1; omega
              have hfz : ∀ y ∈ l, y.key.size ≤ 281474976710656 := fun y hy => by have := (hfl y hy).1; omega
              have hsz : sz l ≤ 1000000 := by have := sz_most hfl; have := HNUM.out.1; have := HNUM.out.2.1; omega
              have hl1 : l.length ≤ 1000 := by have := HNUM.out.1; omega
              have hx1 : x.length ≤ 1000 := by have := HNUM.out.2.2.1; omega
              have hb1 : b.size ≤ 3000 := by omega
              have HF := Lib.hid (And.intro hfl (And.intro hfx (And.intro hfz (And.intro hsz (And.intro hl1 (And.intro hx1 hb1))))))
              clear hfl hfx hfz hsz hl1 hx1 hb1 hlt
              have HW0 : Hid (Below w.heap.size w wr ∧ w.heap.size ≤ wr.heap.size) := Lib.hid (by obtain ⟨_, _, _, _, _, _, _, h1, h2⟩ := HB0.out; exact ⟨h1, h2⟩)
              obtain ⟨PB, hPB⟩ : ∃ S : ByteArray, (⟨(putB l).toArray⟩ : ByteArray) = S := ⟨_, rfl⟩
              obtain ⟨PE, hPE⟩ : ∃ E, putE l = E := ⟨_, rfl⟩
              obtain ⟨U, hU⟩ : ∃ U, getL b.data.toList = U := ⟨_, rfl⟩
              obtain ⟨GE, hGE⟩ : ∃ U, getE b.data.toList = U := ⟨_, rfl⟩
              obtain ⟨RL, hRL⟩ : ∃ U, replL l i x = U := ⟨_, rfl⟩
              obtain ⟨YL, hYL⟩ : ∃ U, l.take (halfL l) = U := ⟨_, rfl⟩
              obtain ⟨ZL, hZL⟩ : ∃ U, l.drop (halfL l) = U := ⟨_, rfl⟩
              have HE := Lib.hid (And.intro hPB (And.intro hPE (And.intro hU (And.intro hGE (And.intro hRL (And.intro hYL hZL))))))
              clear hPB hPE hU hGE hRL hYL hZL
              have q := lent_any v0 l wr (HR.out.1.grow HW0.out.1 HW0.out.1.size) (by have := HF.out.2.2.2.2.1; omega)
              go_wp2_with fail
              refine q.mono ?_
              rintro e A1 ⟨m, rfl, hm, hb⟩
              have K1 := Lib.hid (And.intro hm hb)
              have HW1 := Lib.hid (And.intro (HW0.out.1.trans (hb.mono HW0.out.2)) (Nat.le_trans HW0.out.2 hb.size))
              clear q hb
              clear hm
              have q := lent_any v1 x A1 (HR.out.2.2.1.grow HW1.out.1 HW1.out.1.size) (by have := HF.out.2.2.2.2.2.1; omega)
              go_wp2_with fail
              refine q.mono ?_
              rintro e A2 ⟨n, rfl, hn, hb⟩
              have K2 := Lib.hid (And.intro hn hb)
              have HW2 := Lib.hid (And.intro (HW1.out.1.trans (hb.mono HW1.out.2)) (Nat.le_trans HW1.out.2 hb.size))
              clear q hb
              clear hn
              have HM2 := Lib.hid (And.intro (K1.out.1.on K2.out.2) K2.out.1)
              have q := put_any m l A2 HM2.out.1.reads (by have := HF.out.2.2.2.2.1; omega)
              simp only [HE.out.1, HE.out.2.1] at q
              go_wp2_with fail
              refine q.mono ?_
              rintro e A3 ⟨rfl, hb⟩
              have K3 := Lib.hid (hb)
              have HW3 := Lib.hid (And.intro (HW2.out.1.trans (hb.mono HW2.out.2)) (Nat.le_trans HW2.out.2 hb.size))
              clear q hb
              have HM3 := Lib.hid (And.intro (HM2.out.1.on K3.out) (HM2.out.2.on K3.out))
              clear HM2
              have q := refPutLeaf_any v0 l A3 (HR.out.1.grow HW3.out.1 HW3.out.1.size) HF.out.1 (by have := HF.out.2.2.2.2.1; omega)
              simp only [HE.out.1, HE.out.2.1] at q
              go_wp2_with fail
              refine q.mono ?_
              rintro e A4 ⟨rfl, hb⟩
              have K4 := Lib.hid (hb)
              have HW4 := Lib.hid (And.intro (HW3.out.1.trans (hb.mono HW3.out.2)) (Nat.le_trans HW3.out.2 hb.size))
              clear q hb
              have HM4 := Lib.hid (And.intro (HM3.out.1.on K4.out) (HM3.out.2.on K4.out))
              clear HM3
              have q := (get_any8 b A4 HR.out.2.2.2.2.2.1).mono fun e w' h => getTo_is h
              simp only [HE.out.2.2.1, HE.out.2.2.2.1] at q
              go_wp2_with fail
              refine q.mono ?_
              rintro e A5 ⟨u, rfl, hu, hb⟩
              have K5 := Lib.hid (And.intro hu hb)
              have HW5 := Lib.hid (And.intro (HW4.out.1.trans (hb.mono HW4.out.2)) (Nat.le_trans HW4.out.2 hb.size))
              clear q hb
              clear hu
              have HM5 := Lib.hid (And.intro (HM4.out.1.on K5.out.2) (HM4.out.2.on K5.out.2))
              clear HM4
              have q := (refGet_any b A5 (by have := HF.out.2.2.2.2.2.2; omega)).mono fun e w' h => getTo_is h
              simp only [HE.out.2.2.1, HE.out.2.2.2.1] at q
              go_wp2_with fail
              refine q.mono ?_
              rintro e A6 ⟨v, rfl, hv, hb⟩
              have K6 := Lib.hid (And.intro hv hb)
              have HW6 := Lib.hid (And.intro (HW5.out.1.trans (hb.mono HW5.out.2)) (Nat.le_trans HW5.out.2 hb.size))
              clear q hb
              clear hv
              have HM6 := Lib.hid (And.intro (HM5.out.1.on K6.out.2) (HM5.out.2.on K6.out.2))
              clear HM5
              have q := replace_any m n l x i A6 HM6.out.1.reads HM6.out.2.reads hi (by have := HF.out.2.2.2.2.1; omega) (by have := HF.out.2.2.2.2.2.1; omega) HF.out.2.2.1 HF.out.2.1
              simp only [HE.out.2.2.2.2.1] at q
              go_wp2_with fail
              refine q.mono ?_
              rintro e A7 ⟨r, rfl, hr, hb⟩
              have K7 := Lib.hid (And.intro (show OwnC _ _ _ _ from hr) hb)
              have HW7 := Lib.hid (And.intro (HW6.out.1.trans (hb.mono HW6.out.2)) (Nat.le_trans HW6.out.2 hb.size))
              clear q hb
              clear hr
              have HM7 := Lib.hid (And.intro (HM6.out.1.on K7.out.2) (HM6.out.2.on K7.out.2))
              clear HM6
              have q := split_any m l A7 HM7.out.1.reads HR.out.2.1 HF.out.2.2.2.1 (by have := HF.out.2.2.2.2.1; omega) HF.out.2.2.1
              simp only [HE.out.2.2.2.2.2.1, HE.out.2.2.2.2.2.2] at q
              go_wp2_with fail
              refine q.mono ?_
              rintro e A8 ⟨y, z, rfl, hy, hz, hyz, hb⟩
              have K8 := Lib.hid (And.intro (show OwnC _ _ _ _ from hy) (And.intro (show OwnC _ _ _ _ from hz) (And.intro hyz hb)))
              have HW8 := Lib.hid (And.intro (HW7.out.1.trans (hb.mono HW7.out.2)) (Nat.le_trans HW7.out.2 hb.size))
              clear q hb
              clear hy hz hyz HM7
              have q := refSplit_any v0 l A8 (HR.out.1.grow HW8.out.1 HW8.out.1.size) HF.out.1 (by have := HF.out.2.2.2.2.1; omega) (by have := HF.out.2.2.2.1; omega)
              simp only [HE.out.2.2.2.2.2.1, HE.out.2.2.2.2.2.2] at q
              go_wp2_with fail
              refine q.mono ?_
              rintro e A9 ⟨p, q', rfl, hp, hq, hb⟩
              have K9 := Lib.hid (And.intro hp (And.intro hq hb))
              have HW9 := Lib.hid (And.intro (HW8.out.1.trans (hb.mono HW8.out.2)) (Nat.le_trans HW8.out.2 hb.size))
              clear q hb
              clear hp hq
              obtain ⟨hv', hc', L, hB, hlen, hxs, hfoot, hw0, hbase⟩ := HB0.out
              have hgot : Got wr A1 A2 A4 A5 A6 A7 A8 A9 l x U RL YL ZL m n u v r y z p q' := ⟨K1.out.1, K1.out.2, K2.out.1, K2.out.2, K3.out.trans (K4.out.mono K3.out.size), K5.out.1, K5.out.2, K6.out.1, K6.out.2, K7.out.1, K7.out.2, K8.out.1, K8.out.2.1, K8.out.2.2.1, K8.out.2.2.2, K9.out.1, K9.out.2.1, K9.out.2.2⟩
              have hUl : U.length ≤ 900000 := by rw [← HE.out.2.2.1]; exact Nat.le_trans (getL_len _) (by omega)
              have hRl : RL.length ≤ 900000 := by rw [← HE.out.2.2.2.2.1]; have := replL_len l i x; have := HF.out.2.2.2.2.1; have := HF.out.2.2.2.2.2.1; omega
              have hYl : YL.length ≤ 900000 := by rw [← HE.out.2.2.2.2.2.1, List.length_take]; have := HF.out.2.2.2.2.1; omega
              have hZl : ZL.length ≤ 900000 := by rw [← HE.out.2.2.2.2.2.2, List.length_drop]; have := HF.out.2.2.2.2.1; omega
              have HP0 := Lib.hid (hgot.pend hB)
              have HGO := Lib.hid (And.intro hgot (And.intro hB (And.intro hlen (And.intro hxs (And.intro hfoot (And.intro hw0 (And.intro hbase (And.intro hUl (And.intro hRl (And.intro hYl hZl))))))))))
              have hlen4 : L.length ≤ 8 := by have := HG.out; omega
              have HL4 := Lib.hid hlen4
              have HLEN := Lib.hid (And.intro hUl (And.intro hRl (And.intro hYl hZl)))
              clear hB hlen hxs hfoot hw0 hbase hgot hUl hRl hYl hZl hlen4 K1 K2 K3 K4 K5 K6 K7 K8 K9 HB0
              have q := keep_any HP0.out (by have := HL4.out; (try simp only [List.length_append, List.length_singleton]); omega) (by have := HGO.out.2.2.2.2.2.2.2.1; omega)
              go_wp2_with fail
              refine q.mono ?_
              rintro e C1 ⟨rfl, hv1, hc1, cu, hP⟩
              have HP1 := Lib.hid hP
              clear q hP HP0
              have q := keep_any HP1.out (by have := HL4.out; (try simp only [List.length_append, List.length_singleton]); omega) (by have := HGO.out.2.2.2.2.2.2.2.2.1; omega)
              go_wp2_with fail
              refine q.mono ?_
              rintro e C2 ⟨rfl, hv2, hc2, cr, hP⟩
              have HP2 := Lib.hid hP
              clear q hP HP1
              have q := keep_any HP2.out (by have := HL4.out; (try simp only [List.length_append, List.length_singleton]); omega) (by have := HGO.out.2.2.2.2.2.2.2.2.2.1; omega)
              go_wp2_with fail
              refine q.mono ?_
              rintro e C3 ⟨rfl, hv3, hc3, cy, hP⟩
              have HP3 := Lib.hid hP
              clear q hP HP2
              have q := keep_any HP3.out (by have := HL4.out; (try simp only [List.length_append, List.length_singleton]); omega) (by have := HGO.out.2.2.2.2.2.2.2.2.2.2; omega)
              go_wp2_with fail
              refine q.mono ?_
              rintro e C4 ⟨rfl, hv4, hc4, cz, hP⟩
              have HP4 := Lib.hid hP
              clear q hP HP3
              have HO := Lib.hid (HGO.out.1.out HGO.out.2.1 HGO.out.2.2.1 HGO.out.2.2.2.1 HGO.out.2.2.2.2.1 HGO.out.2.2.2.2.2.1 HGO.out.2.2.2.2.2.2.1 HGO.out.2.2.2.2.2.2.2.1 HGO.out.2.2.2.2.2.2.2.2.1 HGO.out.2.2.2.2.2.2.2.2.2.1 HGO.out.2.2.2.2.2.2.2.2.2.2 HP4.out)
              clear HP4 HGO HL4 HW0 HW1 HW2 HW3 HW4 HW5 HW6 HW7 HW8 HW9
              obtain ⟨SZ, hSZ⟩ : ∃ S, sz l = S := ⟨_, rfl⟩
              have HSZ := Lib.hid hSZ
              have hfe : decide (OKL l ∧ sz l ≤ 240) = (PE == 0) := by
                rw [← HE.out.2.1]
                unfold putE
                by_cases h1 : OKL l
                · by_cases h2 : sz l ≤ 240 <;> simp [h1, h2]
                · simp [h1]
              obtain ⟨T, hT⟩ : ∃ T, (PE == 0) = T := ⟨_, rfl⟩
              rw [hT] at hfe
              have hT2 : decide (PE = 0) = T := by rw [← hT]; simp [BEq.beq]
              have HFE := Lib.hid hfe
              have hIN : IsInt i := hi
              clear hfe hSZ
              have q := sameItems_any u v U C4 HO.out.hu.reads HO.out.hv.reads (by have := HLEN.out.1; omega)
              go_wp2_with fail
              refine q.mono ?_
              rintro e D1 ⟨rfl, hb⟩
              have HO1 := Lib.hid (HO.out.on hb)
              clear q hb HO
              have q := size_any m l D1 HO1.out.hm.reads HR.out.2.1 (by have := HF.out.2.2.2.1; omega)
              simp only [HSZ.out] at q
              go_wp2_with fail
              refine q.mono ?_
              rintro e D2 ⟨rfl, hb⟩
              have HO2 := Lib.hid (HO1.out.on hb)
              clear q hb HO1
              have q := refLeafSize_any v0 l D2 (HR.out.1.grow HO2.out.below.1 (Nat.le_trans HO2.out.below.2 (Nat.le_refl _))) HF.out.1 (by have := HF.out.2.2.2.2.1; omega)
              simp only [HSZ.out] at q
              go_wp2_with fail
              refine q.mono ?_
              rintro e D3 ⟨rfl, hb⟩
              have HO3 := Lib.hid (HO2.out.on hb)
              clear q hb HO2
              have q := fits_any m l D3 HO3.out.hm.reads (by have := HF.out.2.2.2.2.1; omega)
              simp only [HFE.out] at q
              go_wp2_with fail
              refine q.mono ?_
              rintro e D4 ⟨rfl, hb⟩
              have HO4 := Lib.hid (HO3.out.on hb)
              clear q hb HO3
              have q := refReplace_any v0 v1 l x i D4 (HR.out.1.grow HO4.out.below.1 (Nat.le_trans HO4.out.below.2 (Nat.le_refl _))) (HR.out.2.2.1.grow HO4.out.below.1 (Nat.le_trans HO4.out.below.2 (Nat.le_refl _))) hIN (by have := HF.out.2.2.2.2.1; omega) (by have := HF.out.2.2.2.2.2.1; omega)
              simp only [HE.out.2.2.2.2.1] at q
              go_wp2_with fail
              refine q.mono ?_
              rintro e D5 ⟨t, rfl, ht, hb⟩
              have HT5 := Lib.hid (show OwnC _ _ _ _ from ht)
              clear ht
              have HO5 := Lib.hid (HO4.out.on hb)
              clear q hb HO4
              have q := sameItems_any r t RL D5 HO5.out.hr.reads HT5.out.reads (by have := HLEN.out.2.1; omega)
              go_wp2_with fail
              refine q.mono ?_
              rintro e D6 ⟨rfl, hb⟩
              have HO6 := Lib.hid (HO5.out.on hb)
              clear q hb HO5
              have q := sameItems_any y p YL D6 HO6.out.hy.reads HO6.out.hp.reads (by have := HLEN.out.2.2.1; omega)
              go_wp2_with fail
              refine q.mono ?_
              rintro e D7 ⟨rfl, hb⟩
              have HO7 := Lib.hid (HO6.out.on hb)
              clear q hb HO6
              have q := sameItems_any z q' ZL D7 HO7.out.hz.reads HO7.out.hq.reads (by have := HLEN.out.2.2.2; omega)
              go_wp2_with fail
              refine q.mono ?_
              rintro e D8 ⟨rfl, hb⟩
              have HO8 := Lib.hid (HO7.out.on hb)
              clear q hb HO7
              have q := rises_any v0 l D8 (HR.out.1.grow HO8.out.below.1 (Nat.le_trans HO8.out.below.2 (Nat.le_refl _))) (fun y hy => by have := HF.out.2.2.1 y hy; omega)
              go_wp2_with fail
              refine q.mono ?_
              rintro e D9 ⟨rfl, hb⟩
              have HO9 := Lib.hid (HO8.out.on hb)
              clear q hb HO8
              by_cases hrise : Rise (l.drop 1)
              · have hd : decide (Rise (l.drop 1)) = true := decide_eq_true hrise
                rw [hd]
                clear hd
                have HRI := Lib.hid hrise
                clear hrise
                obtain ⟨FN, hFN⟩ : ∃ S, fnd l key = S := ⟨_, rfl⟩
                have HFN := Lib.hid hFN
                clear hFN
                have q := find_any m l key D9 HO9.out.hm.reads HRI.out (by have := HF.out.2.2.2.2.1; omega)
                simp only [HFN.out] at q
                go_wp2_with fail
                refine q.mono ?_
                rintro e D10 ⟨rfl, hb⟩
                have HO10 := Lib.hid (HO9.out.on hb)
                clear q hb HO9
                have q := refFind_any v0 l key D10 (HR.out.1.grow HO10.out.below.1 (Nat.le_trans HO10.out.below.2 (Nat.le_refl _))) HRI.out (fun y hy => by have := HF.out.2.2.1 y hy; omega) HR.out.2.2.2.2.2.2 (by have := HF.out.2.2.2.2.1; omega)
                simp only [HFN.out] at q
                go_wp2_with fail
                refine q.mono ?_
                rintro e D11 ⟨rfl, hb⟩
                have HO11 := Lib.hid (HO10.out.on hb)
                clear q hb HO10
                have q := stays_any 0 m v0 l D11 HO11.out.hm (HR.out.1.grow HO11.out.below.1 (Nat.le_trans HO11.out.below.2 (Nat.le_refl _))) (by have := HF.out.2.2.2.2.1; omega)
                go_wp2_with fail
                refine q.mono ?_
                rintro e D12 ⟨rfl, hb⟩
                have HO12 := Lib.hid (HO11.out.on hb)
                clear q hb HO11
                have q := stays_any 0 n v1 x D12 HO12.out.hn (HR.out.2.2.1.grow HO12.out.below.1 (Nat.le_trans HO12.out.below.2 (Nat.le_refl _))) (by have := HF.out.2.2.2.2.2.1; omega)
                go_wp2_with fail
                refine q.mono ?_
                rintro e D13 ⟨rfl, hb⟩
                have HO13 := Lib.hid (HO12.out.on hb)
                clear q hb HO12
                go_wp2_with fail
                go_roundg (2 - (k + 1))
                case measure => have := HG.out; omega
                case rel => exact ⟨k + 1, by go_num, by have := HG.out; omega, HO13.out.bk⟩
              · have hd : decide (Rise (l.drop 1)) = false := decide_eq_false hrise
                rw [hd]
                clear hd hrise
                have q := stays_any 0 m v0 l D9 HO9.out.hm (HR.out.1.grow HO9.out.below.1 (Nat.le_trans HO9.out.below.2 (Nat.le_refl _))) (by have := HF.out.2.2.2.2.1; omega)
                go_wp2_with fail
                refine q.mono ?_
                rintro e D10 ⟨rfl, hb⟩
                have HO10 := Lib.hid (HO9.out.on hb)
                clear q hb HO9
                have q := stays_any 0 n v1 x D10 HO10.out.hn (HR.out.2.2.1.grow HO10.out.below.1 (Nat.le_trans HO10.out.below.2 (Nat.le_refl _))) (by have := HF.out.2.2.2.2.2.1; omega)
                go_wp2_with fail
                refine q.mono ?_
                rintro e D11 ⟨rfl, hb⟩
                have HO11 := Lib.hid (HO10.out.on hb)
                clear q hb HO10
                go_wp2_with fail
                go_roundg (2 - (k + 1))
                case measure => have := HG.out; omega
                case rel => exact ⟨k + 1, by go_num, by have := HG.out; omega, HO11.out.bk⟩
            · obtain rfl : k = 2 := by omega
              obtain ⟨hv', hc', L, hB, hlen, hxs, hfoot, hw0, hbase⟩ := HB0.out
              have H1 := Lib.hid (And.intro hB (And.intro hlen (And.intro hxs (And.intro hfoot (And.intro hw0 hbase)))))
              clear hB hlen hxs hfoot hw0 hbase
              go_wp2_with fail
              refine (HAL.out _).mono ?_
              rintro e wa ⟨rfl, hba⟩
              have q := apart_any (H1.out.1.below hba) (by have := H1.out.2.1; omega) H1.out.2.2.1
              have H2 := Lib.hid hba
              clear hba
              go_wp2_with fail
              refine q.mono ?_
              rintro e wb ⟨rfl, hkb⟩
              have H3 := Lib.hid hkb
              clear hkb q
              go_wp2_with fail
              go_ret
              exact ⟨rfl, H1.out.2.2.2.2.1.trans ((H2.out.mono H1.out.2.2.2.2.2).trans (H3.out.below (Nat.le_trans H1.out.2.2.2.2.2 H2.out.size) H1.out.2.2.2.1))⟩
        · skip
          go_wp2_with fail
          refine (HAL.out _).mono ?_
          rintro e wa ⟨rfl, hba⟩
          have HZ := Lib.hid (HBB.out.trans (hba.mono HBB.out.size))
          clear hba
          go_wp2_with fail
          go_ret
          exact ⟨rfl, HZ.out⟩
      · skip
        go_wp2_with fail
        refine (HAL.out _).mono ?_
        rintro e wa ⟨rfl, hba⟩
        have HZ := Lib.hid (HBB.out.trans (hba.mono HBB.out.size))
        clear hba
        go_wp2_with fail
        go_ret
        exact ⟨rfl, HZ.out⟩

set_option maxRecDepth 100000 in
theorem lifted (os : Os) (started : os.Started) (H : Type) (enc : TypeId × Value → H) :
    ReturnsInHanded {} Tryz.checked os 4 .any (Rows.branchTellsSpec.pre6 enc Tryz.prog Tryz.f4 Rows.branchTellsRow.domain false) (Rows.branchTellsSpec.post enc Tryz.prog Tryz.f4 false true false false) := by
  refine returnsInHanded_of_change (C := Tryz.checked) own started (by kernel_rfl) Tryz.func4
    (ChangeSpec.witness6 (enc := enc) (C := Tryz.checked) false ⟨#[], #[.slice none 0 0, .slice none 0 0, .string ByteArray.empty, .string ByteArray.empty, .int .i64 0], []⟩ 8 (by kernel_rfl) (by kernel_rfl) (by kernel_rfl) (by kernel_rfl)) ?_
  intro W base args ds gs before hval0 hW hcnd _
  have hval : ∀ (j : Nat) t v, Tryz.f4.params[j]? = some t → args[j]? = some v → Value.okWide Tryz.prog W .any base t v := hval0
  have hW' := hW
  obtain ⟨p, q, hA0, hV, rfl, hfz, hnd⟩ := hW
  have hA : DataW.TrodAll enc Tryz.prog W 0 (fun _ => true) true Tryz.f4.params.toList args.toList ds p := hA0
  rw [Tryz.params4] at hA hval
  obtain ⟨v0, vs0, d0, ds0, p0, q0, hargs, rfl, rfl, h0, r00⟩ := trodAll_cons hA
  obtain ⟨v1, vs1, d1, ds1, p1, q1, rfl, rfl, rfl, h1, r01⟩ := trodAll_cons r00
  obtain ⟨v2, vs2, d2, ds2, p2, q2, rfl, rfl, rfl, h2, r02⟩ := trodAll_cons r01
  obtain ⟨v3, vs3, d3, ds3, p3, q3, rfl, rfl, rfl, h3, r03⟩ := trodAll_cons r02
  obtain ⟨v4, vs4, d4, ds4, p4, q4, rfl, rfl, rfl, h4, r04⟩ := trodAll_cons r03
  obtain ⟨rfl, rfl, rfl⟩ := trodAll_nil r04
  obtain rfl : args = #[v0, v1, v2, v3, v4] := by cases args; simp_all
  obtain ⟨rfl, rfl⟩ := trodVars_none hV
  obtain ⟨l0, r0, i0, m0⟩ := reads_children (hval 0 60 v0 rfl rfl) h0
  obtain ⟨l1, r1, i1, m1⟩ := reads_children (hval 1 60 v1 rfl rfl) h1
  obtain ⟨s2, rfl, rfl, rfl, z2⟩ := Go.ChangeMaps.open_string Tryz.underlying9 (hval 2 9 v2 rfl rfl) h2
  obtain ⟨s3, rfl, rfl, rfl, z3⟩ := Go.ChangeMaps.open_string Tryz.underlying9 (hval 3 9 v3 rfl rfl) h3
  obtain ⟨n4, rfl, rfl, rfl, w4⟩ := open_int Tryz.underlying3 (hval 4 3 v4 rfl rfl) h4
  clear hA0 hval0
  refine (walk W v0 l0 r0 i0 v1 l1 r1 i1 s2 (le_of_maxLen z2) s3 (le_of_maxLen z3) n4 (isInt_of_wf w4)).mono fun e W' ⟨he, hb⟩ => ?_
  subst he
  exact ⟨_, rfl, law_post hW' rfl rfl (by kernel_rfl) (by kernel_rfl) hb⟩

theorem said : Rows.BranchTellsSaid :=
  OpenClaim.holds_of_wide 4 Tryz.f4 rfl rfl rfl rfl rfl rfl rfl ⟨rfl, rfl, rfl, rfl, rfl⟩ rfl rfl rfl rfl rfl (by kernel_rfl) Tryz.func4 (by kernel_rfl)
    (of_decide_eq_true (by kernel_rfl)) (by unfold Func.isWrapper; first | (rw [if_pos (by decide +kernel)]; kernel_rfl) | (rw [if_neg (by decide +kernel)]; exact ⟨rfl, rfl⟩))
    (fun os started H enc _ => lifted os started H enc)
end Go.Proofs.YtpfifmjcmpankaaGreat.BR.branchTells
