/-
  BranchBack (P901): children that are put are got; cut short they are none, but where a whole child was cut off. For every children and every place.
-/
import Derived.Test.YtpfifmjcmpankaaYA9
import Derived.Test.YtpfifmjcmpankaaYB1
import Derived.Test.YtpfifmjcmpankaaFrameC
namespace Go.Proofs.Ytpfifmjcmpankaa.BR.branchBack
open Go.ChangeShapes Go.WideShapes Go.ChangeAt Go.RowKit

theorem toList_extract9 (s : ByteArray) (n : Nat) : (s.extract 0 n).data.toList = s.data.toList.take n := by
  rw [ByteArray.data_extract, Array.toList_extract]
  simp
/-- There are no more children than half of their bytes. -/
theorem sz_two (l : List Chd) : 2 * l.length ≤ sz l := by
  induction l with
  | nil => simp
  | cons x l ih =>
    have := item_two x
    rw [sz_cons, List.length_cons]
    omega
/-- Children of bytes that are cut: fewer, and the first ones. -/
theorem cut_items {l l5 : List Chd} {b : List UInt8} {cut : Nat} (ok : OKL l) (h : IsLeaf b l5) (hb : b = (leafB l).take cut) (hc : cut < (leafB l).length) : l5.length < l.length ∧ l5 = l.take l5.length := by
  obtain ⟨ok5, _, h5⟩ := h
  obtain ⟨h1, h2⟩ := leafB_prefix (l := l5) (m := l) (rest := (leafB l).drop cut) ok5.2.1 ok.2.1 (by rw [h5, hb, List.take_append_drop])
  refine ⟨?_, h2⟩
  by_cases h3 : l5.length = l.length
  · exfalso
    rw [h3, List.take_length] at h2
    have h4 : (leafB l).length = cut := by
      have := congrArg List.length h5
      rw [hb, h2, List.length_take] at this
      omega
    omega
  · omega

set_option maxRecDepth 100000 in
set_option maxHeartbeats 4000000 in
theorem walk (w : World) (v : Value) (l : List Chd) (hr : ReadsIt w w.heap.size v l) (hok : ∀ x ∈ l, x.ok) (hl : l.length ≤ 35184372088832) (n : Int) (hn : IsInt n) :
    Calls Try.prog 5 #[v, .int .i64 n] w fun e w' => e = .returned (.bool true) ∧ Below w.heap.size w w' := by
  obtain ⟨A, c, rfl⟩ := hr.form
  have hP := put_any _ l w hr hl
  have HAL := Lib.hid (fun W => alive9_any W)
  have HR := Lib.hid (And.intro hr (And.intro hok hn))
  by_cases hE : putE l = 0
  · obtain ⟨ok1, s1⟩ := putE_ok hE
    have hpb : putB l = leafB l := by unfold putB; rw [if_pos ⟨ok1, s1⟩]
    obtain ⟨S, hS⟩ : ∃ S : ByteArray, (⟨(leafB l).toArray⟩ : ByteArray) = S := ⟨_, rfl⟩
    have hSl : S.data.toList = leafB l := by rw [← hS]
    have hSz : S.size = sz l := by unfold sz; rw [← hSl]; simp
    rw [hE, hpb, hS] at hP
    have htw := sz_two l
    have hl200 : (l.length : Int) ≤ 200 := by omega
    have hG := fun W => get_any8 S W (by omega)
    rw [hSl] at hG
    have HG := Lib.hid hG
    have HS := Lib.hid (And.intro ok1 (And.intro s1 (And.intro hSl hSz)))
    have hleaf : IsLeaf (leafB l) l := ⟨ok1, s1, rfl⟩
    have HLF := Lib.hid hleaf
    have hS240 : (S.size : Int) ≤ 240 := by omega
    clear hG hr hok hn hE ok1 s1 hpb hS hSl hSz htw hleaf
    go_enter Try.func5, Try.ntmps5
    go_wp2_with fail
    refine hP.mono ?_
    rintro e w1 ⟨rfl, hb1⟩
    clear hP
    have HB1 := Lib.hid hb1
    clear hb1
    go_wp2_with fail
    refine (HG.out _).mono ?_
    rintro e w2 ⟨v2, hto⟩
    rcases hto with ⟨l5, rfl, hleaf, hown, hb2⟩ | ⟨rfl, rfl, hno, hb2⟩
    · obtain rfl : l5 = l := leafB_inj hleaf.1.2.1 HLF.out.1.2.1 hleaf.2.2
      have hr2 := row_readsIt hown
      obtain ⟨A2, c2, rfl⟩ := hr2.form
      have hb12 := HB1.out.trans (hb2.mono HB1.out.size)
      have hrl := HR.out.1.grow hb12 hb12.size
      have hSI := sameItems_any (.slice A2 l5.length c2) (.slice A l5.length c) l5 w2 hr2 hrl (by omega)
      have hZ := fun W (hb : Below w2.heap.size w2 W) => size_any _ l5 W (hrl.grow hb hb.size) HR.out.2.1 (by have := HS.out.2.1; omega)
      have hF := fun W (hb : Below w2.heap.size w2 W) => fits_any _ l5 W (hrl.grow hb hb.size) hl
      rw [← HS.out.2.2.2] at hZ
      rw [decide_eq_true ⟨HS.out.1, HS.out.2.1⟩] at hF
      have HZ := Lib.hid hZ
      have HF := Lib.hid hF
      have HB2 := Lib.hid hb12
      have hzz : ((S.size : Int) != (S.size : Int)) = false := by simp
      clear hZ hF hb2 hown hleaf hr2 hrl hb12
      go_wp2_with fail
      refine hSI.mono ?_
      rintro e w3 ⟨rfl, hb3⟩
      clear hSI
      go_wp2_with fail
      refine (HZ.out _ hb3).mono ?_
      rintro e w4 ⟨rfl, hb4⟩
      have hb24 := hb3.trans (hb4.mono hb3.size)
      clear hb3 hb4
      go_wp2_with fail
      refine (HF.out _ hb24).mono ?_
      rintro e w5 ⟨rfl, hb5⟩
      have hb25 := hb24.trans (hb5.mono hb24.size)
      have HB5 := Lib.hid (HB2.out.trans (hb25.mono HB2.out.size))
      clear hb24 hb5 hb25 HZ HF hzz
      by_cases hcut : 0 ≤ n ∧ n < (S.size : Int)
      · obtain ⟨hn0, hnS⟩ := hcut
        obtain ⟨cut, rfl⟩ : ∃ cut : Nat, n = cut := ⟨n.toNat, by omega⟩
        have hcut : cut < S.size := by omega
        have hdS : (S.extract 0 cut).data.toList = (leafB l5).take cut := by rw [← HS.out.2.2.1, toList_extract9]
        have hG5 := get_any8 (S.extract 0 cut) w5 (by rw [ByteArray.size_extract]; omega)
        have HD := Lib.hid hdS
        clear hdS
        go_wp2_with fail
        refine hG5.mono ?_
        rintro e w6 ⟨v6, hto⟩
        rcases hto with ⟨l6, rfl, hleaf, hown, hb6⟩ | ⟨rfl, rfl, hno, hb6⟩
        · obtain ⟨hlt6, hpre⟩ := cut_items HS.out.1 hleaf HD.out (by have := HS.out.2.2.2; unfold sz at this; omega)
          have hr6 := row_readsIt hown
          obtain ⟨A6, c6, hA6⟩ := hr6.form
          subst hA6
          have hb16 := HB5.out.trans (hb6.mono HB5.out.size)
          have hr16 := HR.out.1.grow hb16 hb16.size
          have hi6 : (l6.length : Int) < l5.length := by omega
          have hi6n : l6.length < l5.length := hlt6
          have hi6c : l6.length ≤ c := by obtain ⟨A', c', hv, hlc, _⟩ := HR.out.1; cases hv; omega
          have hrH := run_high A l5.length c l6.length hi6c
          have HSI := Lib.hid (fun W (hb : Below w6.heap.size w6 W) => sameItems_any (.slice A6 l6.length c6) (.slice A l6.length c) l6 W (hr6.grow hb hb.size) (by have h := reads_high (hr16.grow hb hb.size) (k := l6.length) (by omega); rw [← hpre] at h; exact h) (by omega))
          have HB6 := Lib.hid hb16
          clear hown hr6 hb16 hr16 hb6 hleaf hpre hG5
          go_wp2_with fail
          refine (HAL.out _).mono ?_
          rintro e w7 ⟨rfl, hb7⟩
          go_wp2_with fail
          refine (HSI.out _ hb7).mono ?_
          rintro e w8 ⟨rfl, hb8⟩
          have HB8 := Lib.hid (HB6.out.trans ((hb7.trans (hb8.mono hb7.size)).mono HB6.out.size))
          clear hb7 hb8
          go_wp2_with fail
          go_ret
          exact ⟨rfl, HB8.out⟩
        · have HB6 := Lib.hid (HB5.out.trans (hb6.mono HB5.out.size))
          clear hno hb6
          go_wp2_with fail
          refine (HAL.out _).mono ?_
          rintro e w7 ⟨rfl, hb7⟩
          have HB7 := Lib.hid (HB6.out.trans (hb7.mono HB6.out.size))
          clear hb7
          go_wp2_with fail
          go_ret
          exact ⟨rfl, HB7.out⟩
      · have hno : n < 0 ∨ (0 ≤ n ∧ (S.size : Int) ≤ n) := by omega
        clear hcut
        rcases hno with h | ⟨h, h2⟩
        all_goals
          go_wp2_with fail
          refine (HAL.out _).mono ?_
          rintro e w6 ⟨rfl, hb6⟩
          have HB6 := Lib.hid (HB5.out.trans (hb6.mono HB5.out.size))
          clear hb6
          go_wp2_with fail
          go_ret
          exact ⟨rfl, HB6.out⟩
    · exact absurd HLF.out (hno l)
  · have hpb : putB l = [] := by
      unfold putB
      rw [if_neg]
      rintro ⟨h1, h2⟩
      exact hE (by unfold putE; rw [if_pos h1, if_pos h2])
    rw [hpb] at hP
    have hEb : (putE l != 0) = true := by simpa using hE
    generalize putE l = E at *
    clear hpb hE hr hok hn
    go_enter Try.func5, Try.ntmps5
    go_wp2_with fail
    refine hP.mono ?_
    rintro e w1 ⟨rfl, hb1⟩
    clear hP
    go_wp2_with fail
    refine (HAL.out _).mono ?_
    rintro e w2 ⟨rfl, hb2⟩
    have HB2 := Lib.hid (hb1.trans (hb2.mono hb1.size))
    clear hb1 hb2
    go_wp2_with fail
    go_ret
    exact ⟨rfl, HB2.out⟩

set_option maxRecDepth 100000 in
theorem lifted (os : Os) (started : os.Started) (H : Type) (enc : TypeId × Value → H) :
    ReturnsInHanded {} Try.checked os 5 .any (Rows.branchBackSpec.pre6 enc Try.prog Try.f5 Rows.branchBackRow.domain false) (Rows.branchBackSpec.post enc Try.prog Try.f5 false true false false) := by
  refine returnsInHanded_of_change_sized (C := Try.checked) own started (by kernel_rfl) Try.func5
    (ChangeSpec.witness6 (enc := enc) (C := Try.checked) false ⟨#[], #[.slice none 0 0, .int .i64 0], []⟩ 8 (by kernel_rfl) (by kernel_rfl) (by kernel_rfl) (by kernel_rfl)) ?_
  intro W base args ds gs before hval0 hW hcnd hsz0 _
  have hsz : (DataW.weightsEach Try.prog (Try.f5.params.toList ++ Rows.branchBackSpec.plain.varTypes Try.prog) (ds ++ gs)).all (· ≤ reachBytes) = true := hsz0
  have hval : ∀ (j : Nat) t v, Try.f5.params[j]? = some t → args[j]? = some v → Value.okWide Try.prog W .any base t v := hval0
  have hW' := hW
  obtain ⟨p, q, hA0, hV, rfl, hfz, hnd⟩ := hW
  have hA : DataW.TrodAll enc Try.prog W 0 (fun _ => true) true Try.f5.params.toList args.toList ds p := hA0
  rw [Try.params5] at hA hval hsz
  obtain ⟨v0, vs0, d0, ds0, p0, q0, hargs, rfl, rfl, h0, r00⟩ := trodAll_cons hA
  obtain ⟨v1, vs1, d1, ds1, p1, q1, rfl, rfl, rfl, h1, r01⟩ := trodAll_cons r00
  obtain ⟨rfl, rfl, rfl⟩ := trodAll_nil r01
  obtain rfl : args = #[v0, v1] := by cases args; simp_all
  obtain ⟨rfl, rfl⟩ := trodVars_none hV
  obtain ⟨l0, r0, i0, m0⟩ := reads_children (hval 0 22 v0 rfl rfl) h0
  obtain ⟨n1, rfl, rfl, rfl, w1⟩ := open_int Try.underlying3 (hval 1 3 v1 rfl rfl) h1
  clear hA0 hval0 hsz0
  refine (walk W v0 l0 r0 i0 (children_sized hsz (j := 0) rfl rfl m0) n1 (isInt_of_wf w1)).mono fun e W' ⟨he, hb⟩ => ?_
  subst he
  exact ⟨_, rfl, law_post hW' rfl rfl (by kernel_rfl) (by kernel_rfl) hb⟩

theorem said : Rows.BranchBackSaid :=
  OpenClaim.holds_of_wide 5 Try.f5 rfl rfl rfl rfl rfl rfl rfl ⟨rfl, rfl, rfl, rfl, rfl⟩ rfl rfl rfl rfl rfl (by kernel_rfl) Try.func5 (by kernel_rfl)
    (of_decide_eq_true (by kernel_rfl)) (by unfold Func.isWrapper; first | (rw [if_pos (by decide +kernel)]; kernel_rfl) | (rw [if_neg (by decide +kernel)]; exact ⟨rfl, rfl⟩))
    (fun os started H enc _ => lifted os started H enc)
end Go.Proofs.Ytpfifmjcmpankaa.BR.branchBack
