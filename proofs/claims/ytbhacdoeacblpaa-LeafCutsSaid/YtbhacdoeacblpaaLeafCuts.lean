/-
  LeafCuts (P801): bytes of items that are cut, or have a byte more, are no items, but where a whole item was cut off. For every items, every number and every text.
-/
import Derived.Test.YtbhacdoeacblpaaLA8
import Derived.Test.YtbhacdoeacblpaaLB1
import Derived.Test.YtbhacdoeacblpaaFrameI
namespace Go.Proofs.Ytbhacdoeacblpaa.leafCuts
open Go.ChangeShapes Go.WideShapes Go.ChangeAt Go.RowKit

theorem putE_ok {l : List Itm} (h : putE l = 0) : OKL l ∧ sz l ≤ 240 := by
  unfold putE at h
  split at h
  · rename_i h1
    split at h
    · rename_i h2; exact ⟨h1, h2⟩
    · simp at h
  · simp at h

theorem toList_extract8 (s : ByteArray) (n : Nat) : (s.extract 0 n).data.toList = s.data.toList.take n := by
  rw [ByteArray.data_extract, Array.toList_extract]
  simp
theorem toList_add8 (a b : ByteArray) : (a ++ b).data.toList = a.data.toList ++ b.data.toList := by
  rw [ByteArray.data_append, Array.toList_append]
theorem leaf_short {b : List UInt8} {l : List Itm} (h : IsLeaf b l) : l.length ≤ b.length := by
  obtain ⟨ok, _, rfl⟩ := h
  have : ∀ l : List Itm, (∀ x ∈ l, rightB x = true) → l.length ≤ (leafB l).length := by
    intro l
    induction l with
    | nil => intro _; simp
    | cons x l ih =>
      intro h
      have h1 := (right_len (h x (by simp))).2
      have h2 := ih (fun y hy => h y (by simp [hy]))
      simp only [leafB, List.flatMap_cons, List.length_append, List.length_cons] at h2 ⊢
      omega
  exact this l ok.1
/-- Items of bytes that are cut: fewer, and the first ones. -/
theorem cut_items {l l5 : List Itm} {b : List UInt8} {cut : Nat} (ok : OKL l) (h : IsLeaf b l5) (hb : b = (leafB l).take cut) (hc : cut < (leafB l).length) : l5.length < l.length ∧ l5 = l.take l5.length := by
  obtain ⟨ok5, _, h5⟩ := h
  obtain ⟨h1, h2⟩ := leafB_prefix (l := l5) (m := l) (rest := (leafB l).drop cut) ok5.1 ok.1 (by rw [h5, hb, List.take_append_drop])
  refine ⟨?_, h2⟩
  by_cases h3 : l5.length = l.length
  · exfalso
    rw [h3, List.take_length] at h2
    have h4 : (leafB l).length = cut := by
      have := congrArg List.length h5
      rw [hb, h2, List.length_take] at this
      omega
    omega
  · omega
/-- Items of bytes that have more: more, and they begin alike. -/
theorem more_items {l l9 : List Itm} {b more : List UInt8} (ok : OKL l) (h : IsLeaf b l9) (hb : b = leafB l ++ more) (hm : more ≠ []) : l.length < l9.length ∧ l = l9.take l.length := by
  obtain ⟨ok9, _, h9⟩ := h
  obtain ⟨h1, h2⟩ := leafB_prefix (l := l) (m := l9) (rest := more) ok.1 ok9.1 (by rw [h9, hb])
  refine ⟨?_, h2⟩
  by_cases h3 : l.length = l9.length
  · exfalso
    rw [h3, List.take_length] at h2
    rw [← h2, hb] at h9
    have := congrArg List.length h9
    rw [List.length_append] at this
    cases more with
    | nil => exact hm rfl
    | cons a r => simp at this
  · omega

set_option maxRecDepth 100000 in
set_option maxHeartbeats 4000000 in
theorem walk (w : World) (v : Value) (l : List Itm) (hr : ReadsIt w w.heap.size v l) (hok : ∀ x ∈ l, x.ok) (hl : l.length ≤ 35184372088832) (n : Int) (hn : IsInt n) (more : ByteArray) (hmo : more.size ≤ 9223372036854775807) :
    Calls Try.prog 6 #[v, .int .i64 n, .string more] w fun e w' => e = .returned (.bool true) ∧ Below w.heap.size w w' := by
  obtain ⟨A, c, rfl⟩ := hr.form
  have hP := put_any _ l w hr hl
  have HAL := Lib.hid (fun W => alive8_any W)
  have HR := Lib.hid (And.intro hr (And.intro hok hn))
  obtain ⟨S, hS⟩ : ∃ S : ByteArray, (⟨(putB l).toArray⟩ : ByteArray) = S := ⟨_, rfl⟩
  obtain ⟨E, hE⟩ : ∃ E, putE l = E := ⟨_, rfl⟩
  rw [hS, hE] at hP
  have HE := Lib.hid (And.intro hE hS)
  clear hr hok hS hE hn
  go_enter Try.func6, Try.ntmps6
  go_wp2_with fail
  refine hP.mono ?_
  rintro e w1 ⟨rfl, hb1⟩
  clear hP
  by_cases hmore : more = ⟨#[]⟩
  · subst hmore
    go_wp2_with fail
    all_goals
      refine (HAL.out _).mono ?_
      rintro e w3 ⟨rfl, hb3⟩
      go_wp2_with fail
      go_ret
      exact ⟨rfl, hb1.trans (hb3.mono hb1.size)⟩
  have hmt : ¬ more.toList = [] := fun h => hmore (toList_inj (h.trans (by rw [Lib.toList_data])))
  have hme : more.toList.isEmpty = false := by
    cases h : more.toList
    · exact absurd h hmt
    · rfl
  by_cases hin : E = 0 ∧ 0 ≤ n ∧ n < (S.size : Int) ∧ (more.size : Int) ≤ 100 ∧ (l.length : Int) ≤ 200
  · obtain ⟨e1, hn0, hnS, hm100, hl200⟩ := hin
    subst e1
    obtain ⟨cut, rfl⟩ : ∃ cut : Nat, n = cut := ⟨n.toNat, by omega⟩
    have hcut : cut < S.size := by omega
    obtain ⟨ok1, s1⟩ := putE_ok HE.out.1
    have hSl : S.data.toList = leafB l := by
      rw [← HE.out.2]
      show putB l = leafB l
      unfold putB
      rw [if_pos ⟨ok1, s1⟩]
    have hSz : S.size ≤ 240 := by
      have h1 : S.data.toList.length = S.size := by simp
      unfold sz at s1
      rw [hSl] at h1
      omega
    have hlS : S.data.toList.length = S.size := by simp
    have hdS : (S.extract 0 cut).data.toList = (leafB l).take cut := by
      rw [← hSl, toList_extract8]
    have hdM : (S ++ more).data.toList = leafB l ++ more.data.toList := by
      rw [toList_add8, hSl]
    have hG := get_any8 (S.extract 0 cut) w1 (by rw [ByteArray.size_extract]; omega)
    have HG2 := Lib.hid (fun W => get_any8 (S ++ more) W (by rw [ByteArray.size_append]; omega))
    have hr1 := HR.out.1.grow hb1 hb1.size
    have H1 := Lib.hid (And.intro hb1 hr1)
    have HD := Lib.hid (And.intro hdS (And.intro hdM (And.intro ok1 (And.intro hSl hlS))))
    clear hb1 hr1 hdS hdM hSl ok1 s1 hlS HE
    go_wp2_with fail
    refine hG.mono ?_
    rintro e w2 ⟨v2, hto⟩
    rcases hto with ⟨l5, rfl, hleaf, hown, hb2⟩ | ⟨rfl, rfl, hno, hb2⟩
    · obtain ⟨hlt5, hpre⟩ := cut_items HD.out.2.2.1 hleaf HD.out.1 (by rw [← HD.out.2.2.2.1, HD.out.2.2.2.2]; exact hcut)
      have hr5 := row_readsIt hown
      obtain ⟨A5, c5, hA5⟩ := hr5.form
      subst hA5
      have hr12 := H1.out.2.grow hb2 hb2.size
      have hb12 := H1.out.1.trans (hb2.mono H1.out.1.size)
      have hi5 : (l5.length : Int) < l.length := by omega
      have H2 := Lib.hid (And.intro hb12 (And.intro hr12 (And.intro hr5 (And.intro hlt5 hpre))))
      have hl200' : l.length ≤ 200 := by omega
      obtain ⟨A', c', hv, hlc, _⟩ := hr12
      cases hv
      have hrH := run_high A l.length c l5.length (by omega)
      have hSI := sameItems_any (.slice A5 l5.length c5) (.slice A l5.length c) l5 w2 H2.out.2.2.1 (by have h := reads_high H2.out.2.1 (k := l5.length) (by omega); rw [← H2.out.2.2.2.2] at h; exact h) (by omega)
      clear hown hr5 hb12 hb2 hleaf hG hpre
      go_wp2_with fail
      refine hSI.mono ?_
      rintro e w3 ⟨rfl, hb3⟩
      have HB3 := Lib.hid (And.intro (H2.out.1.trans (hb3.mono H2.out.1.size)) (H2.out.2.1.grow hb3 hb3.size))
      clear hb3 hSI hrH
      go_wp2_with fail
      refine (HG2.out _).mono ?_
      rintro e w4 ⟨v4, hto⟩
      rcases hto with ⟨l9, rfl, hleaf, hown, hb4⟩ | ⟨rfl, rfl, hno, hb4⟩
      · obtain ⟨hlt9, hpre⟩ := more_items HD.out.2.2.1 hleaf HD.out.2.1 (by rw [← Lib.toList_data]; exact hmt)
        have hr9 := row_readsIt hown
        have hl9 : l9.length ≤ 240 := by
          have h1 := leaf_short hleaf
          rw [HD.out.2.1, List.length_append, ← HD.out.2.2.2.1, HD.out.2.2.2.2] at h1
          have h2 : more.data.toList.length = more.size := by simp
          have h3 := hleaf.2.1
          unfold sz at h3
          rw [hleaf.2.2, HD.out.2.1, List.length_append, ← HD.out.2.2.2.1, HD.out.2.2.2.2] at h3
          omega
        obtain ⟨A9, c9, hA9⟩ := hr9.form
        subst hA9
        have hi9 : (l.length : Int) < l9.length := by omega
        have hb14 := HB3.out.1.trans (hb4.mono HB3.out.1.size)
        have hr14 := HB3.out.2.grow hb4 hb4.size
        have H4 := Lib.hid (And.intro hb14 (And.intro hr14 (And.intro hr9 (And.intro hlt9 hpre))))
        obtain ⟨A', c', hv, hlc9, _⟩ := hr9
        cases hv
        have hrH9 := run_high A9 l9.length c9 l.length (by omega)
        have HSI := Lib.hid (fun W (hb : Below w4.heap.size w4 W) => sameItems_any (.slice A9 l.length c9) (.slice A l.length c) l W (by have h := reads_high (H4.out.2.2.1.grow hb hb.size) (k := l.length) (by omega); rw [← H4.out.2.2.2.2] at h; exact h) (H4.out.2.1.grow hb hb.size) (by omega))
        clear hown hleaf hpre hb14 hr14 hb4
        go_wp2_with fail
        refine (HAL.out _).mono ?_
        rintro e w5 ⟨rfl, hb5⟩
        go_wp2_with fail
        refine (HSI.out _ hb5).mono ?_
        rintro e w6 ⟨rfl, hb6⟩
        go_wp2_with fail
        go_ret
        exact ⟨rfl, H4.out.1.trans ((hb5.trans (hb6.mono hb5.size)).mono H4.out.1.size)⟩
      · have hb14 := HB3.out.1.trans (hb4.mono HB3.out.1.size)
        clear hno hb4
        go_wp2_with fail
        refine (HAL.out _).mono ?_
        rintro e w5 ⟨rfl, hb5⟩
        go_wp2_with fail
        go_ret
        exact ⟨rfl, hb14.trans (hb5.mono hb14.size)⟩
    · have hb12 := H1.out.1.trans (hb2.mono H1.out.1.size)
      have hr12 := H1.out.2.grow hb2 hb2.size
      have H2 := Lib.hid (And.intro hb12 hr12)
      clear hno hb12 hb2 hr12 hG
      go_wp2_with fail
      refine (HG2.out _).mono ?_
      rintro e w4 ⟨v4, hto⟩
      rcases hto with ⟨l9, rfl, hleaf, hown, hb4⟩ | ⟨rfl, rfl, hno, hb4⟩
      · obtain ⟨hlt9, hpre⟩ := more_items HD.out.2.2.1 hleaf HD.out.2.1 (by rw [← Lib.toList_data]; exact hmt)
        have hr9 := row_readsIt hown
        have hl9 : l9.length ≤ 240 := by
          have h1 := leaf_short hleaf
          rw [HD.out.2.1, List.length_append, ← HD.out.2.2.2.1, HD.out.2.2.2.2] at h1
          have h2 : more.data.toList.length = more.size := by simp
          have h3 := hleaf.2.1
          unfold sz at h3
          rw [hleaf.2.2, HD.out.2.1, List.length_append, ← HD.out.2.2.2.1, HD.out.2.2.2.2] at h3
          omega
        obtain ⟨A9, c9, hA9⟩ := hr9.form
        subst hA9
        have hi9 : (l.length : Int) < l9.length := by omega
        have hb14 := H2.out.1.trans (hb4.mono H2.out.1.size)
        have hr14 := H2.out.2.grow hb4 hb4.size
        have H4 := Lib.hid (And.intro hb14 (And.intro hr14 (And.intro hr9 (And.intro hlt9 hpre))))
        obtain ⟨A', c', hv, hlc9, _⟩ := hr9
        cases hv
        have hrH9 := run_high A9 l9.length c9 l.length (by omega)
        have HSI := Lib.hid (fun W (hb : Below w4.heap.size w4 W) => sameItems_any (.slice A9 l.length c9) (.slice A l.length c) l W (by have h := reads_high (H4.out.2.2.1.grow hb hb.size) (k := l.length) (by omega); rw [← H4.out.2.2.2.2] at h; exact h) (H4.out.2.1.grow hb hb.size) (by omega))
        clear hown hleaf hpre hb14 hr14 hb4
        go_wp2_with fail
        refine (HAL.out _).mono ?_
        rintro e w5 ⟨rfl, hb5⟩
        go_wp2_with fail
        refine (HSI.out _ hb5).mono ?_
        rintro e w6 ⟨rfl, hb6⟩
        go_wp2_with fail
        go_ret
        exact ⟨rfl, H4.out.1.trans ((hb5.trans (hb6.mono hb5.size)).mono H4.out.1.size)⟩
      · have hb14 := H2.out.1.trans (hb4.mono H2.out.1.size)
        clear hno hb4
        go_wp2_with fail
        refine (HAL.out _).mono ?_
        rintro e w5 ⟨rfl, hb5⟩
        go_wp2_with fail
        go_ret
        exact ⟨rfl, hb14.trans (hb5.mono hb14.size)⟩
  · go_wp2_with fail
    all_goals
      first
        | (refine (HAL.out _).mono ?_
           rintro e w3 ⟨rfl, hb3⟩
           go_wp2_with fail
           go_ret
           exact ⟨rfl, hb1.trans (hb3.mono hb1.size)⟩)
        | (exfalso; omega)
        | trace_state

set_option maxRecDepth 100000 in
theorem lifted (os : Os) (started : os.Started) (H : Type) (enc : TypeId × Value → H) :
    ReturnsInHanded {} Try.checked os 6 .any (Rows.leafCutsSpec.pre6 enc Try.prog Try.f6 Rows.leafCutsRow.domain false) (Rows.leafCutsSpec.post enc Try.prog Try.f6 false true false false) := by
  refine returnsInHanded_of_change_sized (C := Try.checked) own started (by kernel_rfl) Try.func6
    (ChangeSpec.witness6 (enc := enc) (C := Try.checked) false ⟨#[], #[.slice none 0 0, .int .i64 0, .string ByteArray.empty], []⟩ 8 (by kernel_rfl) (by kernel_rfl) (by kernel_rfl) (by kernel_rfl)) ?_
  intro W base args ds gs before hval0 hW hcnd hsz0 _
  have hsz : (DataW.weightsEach Try.prog (Try.f6.params.toList ++ Rows.leafCutsSpec.plain.varTypes Try.prog) (ds ++ gs)).all (· ≤ reachBytes) = true := hsz0
  have hval : ∀ (j : Nat) t v, Try.f6.params[j]? = some t → args[j]? = some v → Value.okWide Try.prog W .any base t v := hval0
  have hW' := hW
  obtain ⟨p, q, hA0, hV, rfl, hfz, hnd⟩ := hW
  have hA : DataW.TrodAll enc Try.prog W 0 (fun _ => true) true Try.f6.params.toList args.toList ds p := hA0
  rw [Try.params6] at hA hval hsz
  obtain ⟨v0, vs0, d0, ds0, p0, q0, hargs, rfl, rfl, h0, r00⟩ := trodAll_cons hA
  obtain ⟨v1, vs1, d1, ds1, p1, q1, rfl, rfl, rfl, h1, r01⟩ := trodAll_cons r00
  obtain ⟨v2, vs2, d2, ds2, p2, q2, rfl, rfl, rfl, h2, r02⟩ := trodAll_cons r01
  obtain ⟨rfl, rfl, rfl⟩ := trodAll_nil r02
  obtain rfl : args = #[v0, v1, v2] := by cases args; simp_all
  obtain ⟨rfl, rfl⟩ := trodVars_none hV
  obtain ⟨l0, r0, i0, m0⟩ := reads_items (hval 0 22 v0 rfl rfl) h0
  obtain ⟨n1, rfl, rfl, rfl, w1⟩ := open_int Try.underlying3 (hval 1 3 v1 rfl rfl) h1
  obtain ⟨s2, rfl, rfl, rfl, z2⟩ := Go.ChangeMaps.open_string Try.underlying9 (hval 2 9 v2 rfl rfl) h2
  clear hA0 hval0 hsz0
  refine (walk W v0 l0 r0 i0 (items_sized hsz (j := 0) rfl rfl m0) n1 (isInt_of_wf w1) s2 (le_of_maxLen z2)).mono fun e W' ⟨he, hb⟩ => ?_
  subst he
  exact ⟨_, rfl, law_post hW' rfl rfl (by kernel_rfl) (by kernel_rfl) hb⟩

theorem said : Rows.LeafCutsSaid :=
  OpenClaim.holds_of_wide 6 Try.f6 rfl rfl rfl rfl rfl rfl rfl ⟨rfl, rfl, rfl, rfl, rfl⟩ rfl rfl rfl rfl rfl (by kernel_rfl) Try.func6 (by kernel_rfl)
    (of_decide_eq_true (by kernel_rfl)) (by unfold Func.isWrapper; first | (rw [if_pos (by decide +kernel)]; kernel_rfl) | (rw [if_neg (by decide +kernel)]; exact ⟨rfl, rfl⟩))
    (fun os started H enc _ => lifted os started H enc)
end Go.Proofs.Ytbhacdoeacblpaa.leafCuts
