/-
  BranchFinds (P902): a key stands below the last child whose key is not above it. For every children and every key.
-/
import Derived.Test.YtpfifmjcmpankaaYA9
import Derived.Test.YtpfifmjcmpankaaYB1
import Derived.Test.YtpfifmjcmpankaaYB2
import Derived.Test.YtpfifmjcmpankaaFrameC
import Derived.Laws.Cover1
namespace Go.Proofs.Ytpfifmjcmpankaa.BR.branchFinds
open Go.ChangeShapes Go.WideShapes Go.ChangeAt Go.RowKit

set_option maxRecDepth 100000 in
set_option maxHeartbeats 2000000 in
theorem walk (w : World) (v : Value) (l : List Chd) (hr : ReadsIt w w.heap.size v l) (hok : ∀ x ∈ l, x.ok) (key : ByteArray) (hk : key.size ≤ 9223372036854775807) :
    Calls Try.prog 4 #[v, .string key] w fun e w' => e = .returned (.bool true) ∧ Below w.heap.size w w' := by
  have hsm := small_any v l w hr (fun x hx => (hok x hx).1)
  have hri := fun W (hb : Below w.heap.size w W) => rises_any v l W (hr.grow hb hb.size) (fun x hx => (hok x hx).1)
  obtain ⟨A, c, rfl⟩ := hr.form
  have HAL := Lib.hid (fun W => alive9_any W)
  have HRI := Lib.hid hri
  by_cases h0 : l.length = 0
  · obtain rfl : l = [] := List.eq_nil_of_length_eq_zero h0
    have hf0 := fun W (hb : Below w.heap.size w W) => find_any _ [] key W (hr.grow hb hb.size) List.Pairwise.nil (by decide)
    have e0 : fnd [] key = 0 := rfl
    simp only [e0] at hf0
    have HF0 := Lib.hid hf0
    simp only [List.length_nil] at HF0 HRI hsm ⊢
    clear hri hr hok hf0 e0 h0
    go_enter Try.func4, Try.ntmps4
    go_wp2_with fail
    refine hsm.mono ?_
    rintro e w1 ⟨b, rfl, hsb, hb1⟩
    clear hsm hsb
    cases b
    · have HBB := Lib.hid hb1
      clear HRI hb1
      go_wp2_with fail
      refine (HAL.out _).mono ?_
      rintro e wa ⟨rfl, hba⟩
      have HZ := HBB.out.trans (hba.mono HBB.out.size)
      have hf := HF0.out wa HZ
      have HZ := Lib.hid HZ
      clear hba
      go_wp2_with fail
      refine hf.mono ?_
      rintro e wb ⟨rfl, hbb⟩
      have HY := Lib.hid (HZ.out.trans (hbb.mono HZ.out.size))
      clear hf hbb
      go_wp2_with fail
      go_ret
      exact ⟨rfl, HY.out⟩
    · go_wp2_with fail
      refine (HRI.out _ hb1).mono ?_
      rintro e w2 ⟨rfl, hb2⟩
      have HBB := Lib.hid (hb1.trans (hb2.mono hb1.size))
      clear hb1 hb2 HRI
      have hd : decide (Rise (List.drop 1 ([] : List Chd))) = true := decide_eq_true List.Pairwise.nil
      rw [hd]
      clear hd
      by_cases hk3 : (key.size : Int) ≤ 300
      · skip
        go_wp2_with fail
        refine (HAL.out _).mono ?_
        rintro e wa ⟨rfl, hba⟩
        have HZ := HBB.out.trans (hba.mono HBB.out.size)
        have hf := HF0.out wa HZ
        have HZ := Lib.hid HZ
        clear hba
        go_wp2_with fail
        refine hf.mono ?_
        rintro e wb ⟨rfl, hbb⟩
        have HY := Lib.hid (HZ.out.trans (hbb.mono HZ.out.size))
        clear hf hbb
        go_wp2_with fail
        go_ret
        exact ⟨rfl, HY.out⟩
      · skip
        go_wp2_with fail
        refine (HAL.out _).mono ?_
        rintro e wa ⟨rfl, hba⟩
        have HZ := HBB.out.trans (hba.mono HBB.out.size)
        have hf := HF0.out wa HZ
        have HZ := Lib.hid HZ
        clear hba
        go_wp2_with fail
        refine hf.mono ?_
        rintro e wb ⟨rfl, hbb⟩
        have HY := Lib.hid (HZ.out.trans (hbb.mono HZ.out.size))
        clear hf hbb
        go_wp2_with fail
        go_ret
        exact ⟨rfl, HY.out⟩
  · have hn1 : ((l.length : Int) == 0) = false := by rw [beq_eq_false_iff_ne]; omega
    have hn2 : ((l.length : Int) != 0) = true := by rw [bne_iff_ne]; omega
    have HR := Lib.hid (And.intro hr hok)
    have h0H := Lib.hid h0
    clear hri hr hok h0
    go_enter Try.func4, Try.ntmps4
    go_wp2_with fail
    refine hsm.mono ?_
    rintro e w1 ⟨b, rfl, hsb, hb1⟩
    clear hsm
    cases b
    · have HBB := Lib.hid hb1
      clear HRI hb1 hsb
      go_wp2_with fail
      refine (HAL.out _).mono ?_
      rintro e wa ⟨rfl, hba⟩
      have HZ := Lib.hid (HBB.out.trans (hba.mono HBB.out.size))
      clear hba
      go_wp2_with fail
      go_ret
      exact ⟨rfl, HZ.out⟩
    · obtain ⟨hl100, hl9⟩ := hsb rfl
      have hl1 : (l.length : Int) ≤ 100 := by omega
      clear hsb
      go_wp2_with fail
      refine (HRI.out _ hb1).mono ?_
      rintro e w2 ⟨rfl, hb2⟩
      have HBB := Lib.hid (hb1.trans (hb2.mono hb1.size))
      clear hb1 hb2 HRI
      by_cases hrise : Rise (l.drop 1)
      · have hd : decide (Rise (l.drop 1)) = true := decide_eq_true hrise
        rw [hd]
        clear hd
        by_cases hk3 : (key.size : Int) ≤ 300
        · obtain ⟨hr, hok⟩ := HR.out
          have hf := find_any (.slice A l.length c) l key w2 (hr.grow HBB.out HBB.out.size) hrise (by omega)
          have hfl := fnd_le l key
          have hba : ∀ m, fnd l key = m → (∀ i (hi : i < l.length), 1 ≤ i → i ≤ m → ltK key l[i].key = false) ∧ (∀ i (hi : i < l.length), m < i → ltK key l[i].key = true) := by
            rintro _ rfl
            exact ⟨fun i hi h1 h2 => fnd_below h1 h2 hi, fun i hi h => fnd_above hrise h hi⟩
          -- what stands at a place, in every world to come
          have hcl : ∀ m (hm : m < l.length) W, Below w.heap.size w W → ∃ b off, A = some ⟨b, off, none⟩ ∧ W.cell? ⟨b, off + m * 2, none⟩ = some (.string l[m].key) := fun m hm W hW => by
            obtain ⟨A', c', hv, _, _, _, hc⟩ := hr
            cases hv
            obtain ⟨b, off, hA, hbb, hcell⟩ := hc (by omega)
            exact ⟨b, off, hA, ((hcell.below hW hbb) m hm).1⟩
          obtain ⟨m, hm⟩ : ∃ m, fnd l key = m := ⟨_, rfl⟩
          have HCL := Lib.hid hcl
          have HLE := Lib.hid (fun a b W (ha : a.size ≤ 9223372036854775807) (hb : b.size ≤ 9223372036854775807) => less_any a b W ha hb)
          have HOK := Lib.hid hok
          rw [hm] at hf
          have hml : m < l.length := by have := h0H.out; omega
          have HBA := Lib.hid (hba m hm)
          clear hcl hr hok hba hfl hrise hm
          have hm0 : (0 : Int) ≤ m := by omega
          have hmI : (m : Int) < l.length := by omega
          go_wp2_with fail
          refine hf.mono ?_
          rintro e w3 ⟨rfl, hb3⟩
          have hb3' : Below w.heap.size w w3 := HBB.out.trans (hb3.mono HBB.out.size)
          clear hf hb3
          obtain ⟨b3, o3, hA3, q3⟩ := HCL.out m hml w3 hb3'
          subst hA3
          have hxs : l[m].key.size ≤ 9223372036854775807 := (HOK.out _ (List.getElem_mem hml)).1
          have hbm := fun h1 => HBA.out.1 m hml h1 (Nat.le_refl _)
          generalize hxx : l[m].key = x at *
          have HL1 := Lib.hid (fun W => HLE.out key x W hk hxs)
          have e3 := cell_gw q3
          have HB3 := Lib.hid hb3'
          have HXX := Lib.hid hxx
          clear hxx hb3'
          by_cases hm1 : 1 ≤ m
          · rw [hbm hm1] at HL1
            have hm1I : (0 : Int) < m := by omega
            have hm1N : 0 < m := by omega
            clear hbm
            go_wp2_with fail
            refine (HL1.out _).mono ?_
            rintro e w4 ⟨rfl, hb4⟩
            have HB4 := Lib.hid (HB3.out.trans (hb4.mono HB3.out.size))
            clear hb4 q3 e3
            by_cases hme : m + 1 = l.length
            · have hq : ((m : Int) == (l.length : Int) - 1) = true := by rw [beq_iff_eq]; omega
              have hmeH := Lib.hid hme
              clear hme
              go_wp2_with fail
              refine (HAL.out _).mono ?_
              rintro e wa ⟨rfl, hba⟩
              have HZ := Lib.hid (HB4.out.trans (hba.mono HB4.out.size))
              clear hba
              go_wp2_with fail
              go_ret
              exact ⟨rfl, HZ.out⟩
            · have hq : ((m : Int) == (l.length : Int) - 1) = false := by rw [beq_eq_false_iff_ne]; omega
              have hm2 : m + 1 < l.length := by omega
              have hm2I : (m : Int) + 1 < l.length := by omega
              have hm20 : (0 : Int) ≤ (m : Int) + 1 := by omega
              have hm2n : ((m : Int) + 1).toNat = m + 1 := by omega
              have hlt := HBA.out.2 (m + 1) hm2 (by omega)
              have hys : l[m + 1].key.size ≤ 9223372036854775807 := (HOK.out _ (List.getElem_mem hm2)).1
              have hcy := HCL.out (m + 1) hm2
              clear hme
              generalize hyy : l[m + 1].key = y at *
              have HL2 := Lib.hid (fun W => HLE.out key y W hk hys)
              rw [hlt] at HL2
              have HYY := Lib.hid (And.intro hyy hcy)
              clear hyy hlt hcy
              go_wp2_with fail
              refine (HAL.out _).mono ?_
              rintro e wa ⟨rfl, hba⟩
              have hz := HB4.out.trans (hba.mono HB4.out.size)
              obtain ⟨b6, o6, hA6, q6⟩ := HYY.out.2 wa hz
              cases hA6
              have HZ := Lib.hid hz
              clear hba hz
              go_wp2_with fail
              refine (HL2.out _).mono ?_
              rintro e wb ⟨rfl, hbb⟩
              have HY := Lib.hid (HZ.out.trans (hbb.mono HZ.out.size))
              clear hbb q6
              go_wp2_with fail
              go_ret
              exact ⟨rfl, HY.out⟩
          · have hm1I : ¬ (0 : Int) < m := by omega
            have hm1N : ¬ 0 < m := by omega
            clear hbm
            have HB4 := HB3
            clear q3 e3
            by_cases hme : m + 1 = l.length
            · have hq : ((m : Int) == (l.length : Int) - 1) = true := by rw [beq_iff_eq]; omega
              have hmeH := Lib.hid hme
              clear hme
              go_wp2_with fail
              refine (HAL.out _).mono ?_
              rintro e wa ⟨rfl, hba⟩
              have HZ := Lib.hid (HB4.out.trans (hba.mono HB4.out.size))
              clear hba
              go_wp2_with fail
              go_ret
              exact ⟨rfl, HZ.out⟩
            · have hq : ((m : Int) == (l.length : Int) - 1) = false := by rw [beq_eq_false_iff_ne]; omega
              have hm2 : m + 1 < l.length := by omega
              have hm2I : (m : Int) + 1 < l.length := by omega
              have hm20 : (0 : Int) ≤ (m : Int) + 1 := by omega
              have hm2n : ((m : Int) + 1).toNat = m + 1 := by omega
              have hlt := HBA.out.2 (m + 1) hm2 (by omega)
              have hys : l[m + 1].key.size ≤ 9223372036854775807 := (HOK.out _ (List.getElem_mem hm2)).1
              have hcy := HCL.out (m + 1) hm2
              clear hme
              generalize hyy : l[m + 1].key = y at *
              have HL2 := Lib.hid (fun W => HLE.out key y W hk hys)
              rw [hlt] at HL2
              have HYY := Lib.hid (And.intro hyy hcy)
              clear hyy hlt hcy
              go_wp2_with fail
              refine (HAL.out _).mono ?_
              rintro e wa ⟨rfl, hba⟩
              have hz := HB4.out.trans (hba.mono HB4.out.size)
              obtain ⟨b6, o6, hA6, q6⟩ := HYY.out.2 wa hz
              cases hA6
              have HZ := Lib.hid hz
              clear hba hz
              go_wp2_with fail
              refine (HL2.out _).mono ?_
              rintro e wb ⟨rfl, hbb⟩
              have HY := Lib.hid (HZ.out.trans (hbb.mono HZ.out.size))
              clear hbb q6
              go_wp2_with fail
              go_ret
              exact ⟨rfl, HY.out⟩
        · skip
          go_wp2_with fail
          refine (HAL.out _).mono ?_
          rintro e wa ⟨rfl, hba⟩
          have HZ := Lib.hid (HBB.out.trans (hba.mono HBB.out.size))
          clear hba
          go_wp2_with fail
          go_ret
          exact ⟨rfl, HZ.out⟩
      · have hd : decide (Rise (l.drop 1)) = false := decide_eq_false hrise
        rw [hd]
        clear hd hrise
        go_wp2_with fail
        refine (HAL.out _).mono ?_
        rintro e wa ⟨rfl, hba⟩
        have HZ := Lib.hid (HBB.out.trans (hba.mono HBB.out.size))
        clear hba
        go_wp2_with fail
        go_ret
        exact ⟨rfl, HZ.out⟩

set_option maxRecDepth 100000 in
theorem lifted (os : Os) (started : os.Started) (H : Type) (enc : TypeId × Value → H) :
    ReturnsInHanded {} Try.checked os 4 .any (Rows.branchFindsSpec.pre6 enc Try.prog Try.f4 Rows.branchFindsRow.domain false) (Rows.branchFindsSpec.post enc Try.prog Try.f4 false true false false) := by
  refine returnsInHanded_of_change (C := Try.checked) own started (by kernel_rfl) Try.func4
    (ChangeSpec.witness6 (enc := enc) (C := Try.checked) false ⟨#[], #[.slice none 0 0, .string ByteArray.empty], []⟩ 8 (by kernel_rfl) (by kernel_rfl) (by kernel_rfl) (by kernel_rfl)) ?_
  intro W base args ds gs before hval0 hW hcnd _
  have hval : ∀ (j : Nat) t v, Try.f4.params[j]? = some t → args[j]? = some v → Value.okWide Try.prog W .any base t v := hval0
  have hW' := hW
  obtain ⟨p, q, hA0, hV, rfl, hfz, hnd⟩ := hW
  have hA : DataW.TrodAll enc Try.prog W 0 (fun _ => true) true Try.f4.params.toList args.toList ds p := hA0
  rw [Try.params4] at hA hval
  obtain ⟨v0, vs0, d0, ds0, p0, q0, hargs, rfl, rfl, h0, r00⟩ := trodAll_cons hA
  obtain ⟨v1, vs1, d1, ds1, p1, q1, rfl, rfl, rfl, h1, r01⟩ := trodAll_cons r00
  obtain ⟨rfl, rfl, rfl⟩ := trodAll_nil r01
  obtain rfl : args = #[v0, v1] := by cases args; simp_all
  obtain ⟨rfl, rfl⟩ := trodVars_none hV
  obtain ⟨l0, r0, i0, m0⟩ := reads_children (hval 0 22 v0 rfl rfl) h0
  obtain ⟨s1, rfl, rfl, rfl, z1⟩ := Go.ChangeMaps.open_string Try.underlying9 (hval 1 9 v1 rfl rfl) h1
  clear hA0 hval0
  refine (walk W v0 l0 r0 i0 s1 (le_of_maxLen z1)).mono fun e W' ⟨he, hb⟩ => ?_
  subst he
  exact ⟨_, rfl, law_post hW' rfl rfl (by kernel_rfl) (by kernel_rfl) hb⟩

theorem said : Rows.BranchFindsSaid :=
  OpenClaim.holds_of_wide 4 Try.f4 rfl rfl rfl rfl rfl rfl rfl ⟨rfl, rfl, rfl, rfl, rfl⟩ rfl rfl rfl rfl rfl (by kernel_rfl) Try.func4 (by kernel_rfl)
    (of_decide_eq_true (by kernel_rfl)) (by unfold Func.isWrapper; first | (rw [if_pos (by decide +kernel)]; kernel_rfl) | (rw [if_neg (by decide +kernel)]; exact ⟨rfl, rfl⟩))
    (fun os started H enc _ => lifted os started H enc)
end Go.Proofs.Ytpfifmjcmpankaa.BR.branchFinds
