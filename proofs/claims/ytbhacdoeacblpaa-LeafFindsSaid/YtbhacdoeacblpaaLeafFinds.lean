/-
  LeafFinds (P802): of items that rise each is found at its place; a key that is not there would stand between those that are less and those that are greater. For every items and every key.
-/
import Derived.Test.YtbhacdoeacblpaaLA8
import Derived.Test.YtbhacdoeacblpaaLB1
import Derived.Test.YtbhacdoeacblpaaLB2
import Derived.Test.YtbhacdoeacblpaaFrameI
import Derived.Laws.Cover1
namespace Go.Proofs.Ytbhacdoeacblpaa.leafFinds
open Go.ChangeShapes Go.WideShapes Go.ChangeAt Go.RowKit

set_option maxRecDepth 100000 in
set_option maxHeartbeats 2000000 in
theorem walk (w : World) (v : Value) (l : List Itm) (hr : ReadsIt w w.heap.size v l) (hok : ∀ x ∈ l, x.ok) (key : ByteArray) (hk : key.size ≤ 9223372036854775807) :
    Calls Try.prog 5 #[v, .string key] w fun e w' => e = .returned (.bool true) ∧ Below w.heap.size w w' := by
  have hsm := small_any v l w hr (fun x hx => ⟨(hok x hx).1, (hok x hx).2.1⟩)
  have hri := fun W (hb : Below w.heap.size w W) => rises_any v l W (hr.grow hb hb.size) (fun x hx => (hok x hx).1)
  obtain ⟨A, c, rfl⟩ := hr.form
  have HAL := Lib.hid (fun W => alive8_any W)
  have HRI := Lib.hid hri
  have HR := Lib.hid (And.intro hr hok)
  clear hri hr hok
  go_enter Try.func5, Try.ntmps5
  go_wp2_with fail
  refine hsm.mono ?_
  rintro e w1 ⟨b, rfl, hsb, hb1⟩
  clear hsm
  cases b
  · clear hsb HRI
    go_wp2_with fail
    refine (HAL.out _).mono ?_
    rintro e w2 ⟨rfl, hb2⟩
    go_wp2_with fail
    go_ret
    exact ⟨rfl, hb1.trans (hb2.mono hb1.size)⟩
  · obtain ⟨hl100, hl9⟩ := hsb rfl
    have hl1 : (l.length : Int) ≤ 100 := by omega
    clear hsb
    go_wp2_with fail
    refine (HRI.out _ hb1).mono ?_
    rintro e w2 ⟨rfl, hb2⟩
    have hb2' := hb1.trans (hb2.mono hb1.size)
    clear hb1 hb2 HRI
    by_cases hrise : Rise l
    · have hd : decide (Rise l) = true := decide_eq_true hrise
      rw [hd]
      clear hd
      by_cases hk3 : (key.size : Int) ≤ 300
      · obtain ⟨hr, hok⟩ := HR.out
        have HF := Lib.hid (fun k W (hb : Below w.heap.size w W) => find_any (.slice A l.length c) l k W (hr.grow hb hb.size) hrise (by omega))
        obtain ⟨A', c', hv, hlc, hcm, _, hc⟩ := hr
        cases hv
        have HH := Lib.hid (And.intro hc (And.intro hrise hl100))
        clear hc hrise hok
        go_wp2_with fail
        go_loopw [5] (fun i wr => ∃ k : Nat, k ≤ l.length ∧ i = .int .i64 k ∧ Below w.heap.size w wr) (fun i _ => l.length - (RowKit.intOf i).toNat)
        case atStart => exact ⟨0, Nat.zero_le _, rfl, hb2'⟩
        case round =>
          obtain ⟨k, hk', rfl, hbl⟩ := hrel
          have hbs := hbl.size
          by_cases hlt : k < l.length
          · obtain ⟨hc, hrise, _⟩ := HH.out
            obtain ⟨b, off, rfl, hbb, hcell⟩ := hc (by omega)
            obtain ⟨c0, _, _, _⟩ := (hcell.below hbl hbb) k hlt
            obtain ⟨s1, s2⟩ := lb_self hrise hlt
            have hf := HF.out l[k].key wr hbl
            rw [s1, s2] at hf
            generalize l[k].key = x at *
            have hkl : (k : Int) < l.length := by omega
            have HB := Lib.hid (And.intro hbl hcell)
            have hck := Lib.hid c0
            clear hc hrise hcell s1 s2 hbl
            go_wp2_with fail
            refine hf.mono ?_
            rintro e w3 ⟨rfl, hb3⟩
            clear hf
            go_wp2_with fail
            go_roundw
            case rel => exact ⟨k + 1, by omega, by go_num, HB.out.1.trans (hb3.mono hbs)⟩
            case measure => simp [RowKit.intOf]; omega
          · obtain rfl : k = l.length := by omega
            obtain ⟨hc, hrise, hl100'⟩ := HH.out
            have hf := HF.out key wr hbl
            have hlb := lb_le l key
            obtain ⟨i, hi⟩ : ∃ i, lb l key = i := ⟨_, rfl⟩
            have HBL := Lib.hid hbl
            -- what stands at the places that are looked at, in every world to come
            have hcl : ∀ m (hm : m < l.length) W, Below w.heap.size w W → ∃ b off, A = some ⟨b, off, none⟩ ∧ W.cell? ⟨b, off + m * 4, none⟩ = some (.string l[m].key) := fun m hm W hW => by
              obtain ⟨b, off, hA, hbb, hcell⟩ := hc (by omega)
              exact ⟨b, off, hA, ((hcell.below hW hbb) m hm).1⟩
            have hlow := fun m (hm : m < l.length) (h : m < lb l key) => lb_below h hm
            have hups := fun m (hm : m < l.length) (h : lb l key ≤ m) => lb_above hrise h hm
            cases hT : isAt l key
            · have hne : ∀ m (hm : m < l.length), lb l key = m → ¬ l[m].key = key := fun m hm h e => by
                have := isAt_iff.2 ⟨by omega, show l[lb l key].key = key by simp only [h]; exact e⟩
                rw [hT] at this
                cases this
              rw [hT] at hf
              simp only [hi] at hf hlow hups hne
              rw [hi] at hlb
              have HCL := Lib.hid hcl
              have HLO := Lib.hid (And.intro hlow (And.intro hups hne))
              have hi0 : (0 : Int) ≤ i := by omega
              clear hi hT hc hrise hl100' hbl hcl hlow hups hne hlt hk'
              by_cases hil : i < l.length
              · have hilI : (i : Int) < l.length := by omega
                have hgt1 : ltK l[i].key key = false := HLO.out.2.1 i hil (Nat.le_refl _)
                have hgt3 : (l[i].key.toList == key.toList) = false := by
                  rw [beq_eq_false_iff_ne]
                  exact fun h => HLO.out.2.2 i hil rfl (toList_inj h)
                unfold ltK at hgt1
                by_cases h0 : i = 0
                · have HC1 := Lib.hid (fun W hW => HCL.out i hil W hW)
                  obtain ⟨x, hx⟩ : ∃ x, l[i].key = x := ⟨_, rfl⟩
                  rw [hx] at hgt1 hgt3 HC1
                  have hxx := Lib.hid hx
                  clear hx
                  have hiz : ((i : Int) == 0) = true := by rw [h0]; rfl
                  have h0' := Lib.hid h0
                  clear h0
                  go_wp2_with fail
                  refine hf.mono ?_
                  rintro e w3 ⟨rfl, hb3⟩
                  have hb3' : Below w.heap.size w w3 := HBL.out.trans (hb3.mono hbs)
                  clear hf
                  go_wp2_with fail
                  refine (HAL.out _).mono ?_
                  rintro e w4 ⟨rfl, hb4⟩
                  have hb4' : Below w.heap.size w w4 := hb3'.trans (hb4.mono hb3'.size)
                  obtain ⟨b4, off4, hA4, q4⟩ := HC1.out w4 hb4'
                  subst hA4
                  have HF4 := Lib.hid hb4'
                  clear hb3 hb3' hb4 hb4'
                  go_wp2_with fail
                  go_ret
                  exact ⟨rfl, HF4.out⟩
                · have HC1 := Lib.hid (fun W hW => HCL.out i hil W hW)
                  obtain ⟨x, hx⟩ : ∃ x, l[i].key = x := ⟨_, rfl⟩
                  rw [hx] at hgt1 hgt3 HC1
                  have hxx := Lib.hid hx
                  clear hx
                  obtain ⟨j, rfl⟩ : ∃ j, i = j + 1 := ⟨i - 1, by omega⟩
                  have hlo1 : ltK l[j].key key = true := HLO.out.1 j (by omega) (by omega)
                  have HC2 := Lib.hid (fun W hW => HCL.out j (by omega) W hW)
                  obtain ⟨y, hy⟩ : ∃ y, l[j].key = y := ⟨_, rfl⟩
                  rw [hy] at hlo1 HC2
                  unfold ltK at hlo1
                  have hyy := Lib.hid hy
                  have hjn : ((j : Int) + 1 == 0) = false := by rw [beq_eq_false_iff_ne]; omega
                  have hj0 : (0 : Int) ≤ j := by omega
                  have hjl : (j : Int) < l.length := by omega
                  have hjl2 : j < l.length := by omega
                  have hjI : (j : Int) + 1 ≤ l.length := by omega
                  have hwj : IntKind.i64.wrap (j : Int) = (j : Int) := by rw [IntKind.wrap_i64]; omega
                  have hjp : (0 : Int) ≤ (j : Int) + 1 := by omega
                  have hjt : ((j : Int) + 1).toNat = j + 1 := by omega
                  clear hy h0
                  go_wp2_with fail
                  refine hf.mono ?_
                  rintro e w3 ⟨rfl, hb3⟩
                  have hb3' : Below w.heap.size w w3 := HBL.out.trans (hb3.mono hbs)
                  clear hf
                  go_wp2_with fail
                  refine (HAL.out _).mono ?_
                  rintro e w4 ⟨rfl, hb4⟩
                  have hb4' : Below w.heap.size w w4 := hb3'.trans (hb4.mono hb3'.size)
                  obtain ⟨b4, off4, hA4, q4⟩ := HC1.out w4 hb4'
                  subst hA4
                  obtain ⟨b5, off5, hA5, q5⟩ := HC2.out w4 hb4'
                  cases hA5
                  have HF4 := Lib.hid hb4'
                  clear hb3 hb3' hb4 hb4'
                  go_wp2_with fail
                  go_ret
                  exact ⟨rfl, HF4.out⟩
              · have heq : ((i : Int) == (l.length : Int)) = true := by rw [beq_iff_eq]; omega
                by_cases h0 : i = 0
                · have hiz : ((i : Int) == 0) = true := by rw [h0]; rfl
                  have h0' := Lib.hid h0
                  clear h0
                  go_wp2_with fail
                  refine hf.mono ?_
                  rintro e w3 ⟨rfl, hb3⟩
                  have hb3' : Below w.heap.size w w3 := HBL.out.trans (hb3.mono hbs)
                  clear hf
                  go_wp2_with fail
                  refine (HAL.out _).mono ?_
                  rintro e w4 ⟨rfl, hb4⟩
                  have hb4' : Below w.heap.size w w4 := hb3'.trans (hb4.mono hb3'.size)
                  have HF4 := Lib.hid hb4'
                  clear hb3 hb3' hb4 hb4'
                  go_wp2_with fail
                  go_ret
                  exact ⟨rfl, HF4.out⟩
                · obtain ⟨j, rfl⟩ : ∃ j, i = j + 1 := ⟨i - 1, by omega⟩
                  have hlo1 : ltK l[j].key key = true := HLO.out.1 j (by omega) (by omega)
                  have HC2 := Lib.hid (fun W hW => HCL.out j (by omega) W hW)
                  obtain ⟨y, hy⟩ : ∃ y, l[j].key = y := ⟨_, rfl⟩
                  rw [hy] at hlo1 HC2
                  unfold ltK at hlo1
                  have hyy := Lib.hid hy
                  have hjn : ((j : Int) + 1 == 0) = false := by rw [beq_eq_false_iff_ne]; omega
                  have hj0 : (0 : Int) ≤ j := by omega
                  have hjl : (j : Int) < l.length := by omega
                  have hjl2 : j < l.length := by omega
                  have hjI : (j : Int) + 1 ≤ l.length := by omega
                  have hwj : IntKind.i64.wrap (j : Int) = (j : Int) := by rw [IntKind.wrap_i64]; omega
                  have hjp : (0 : Int) ≤ (j : Int) + 1 := by omega
                  have hjt : ((j : Int) + 1).toNat = j + 1 := by omega
                  clear hy h0
                  go_wp2_with fail
                  refine hf.mono ?_
                  rintro e w3 ⟨rfl, hb3⟩
                  have hb3' : Below w.heap.size w w3 := HBL.out.trans (hb3.mono hbs)
                  clear hf
                  go_wp2_with fail
                  refine (HAL.out _).mono ?_
                  rintro e w4 ⟨rfl, hb4⟩
                  have hb4' : Below w.heap.size w w4 := hb3'.trans (hb4.mono hb3'.size)
                  obtain ⟨b5, off5, hA5, q5⟩ := HC2.out w4 hb4'
                  subst hA5
                  have HF4 := Lib.hid hb4'
                  clear hb3 hb3' hb4 hb4'
                  go_wp2_with fail
                  go_ret
                  exact ⟨rfl, HF4.out⟩
            · obtain ⟨hil', hke'⟩ := isAt_iff.1 hT
              have hke : ∀ m (hm : m < l.length), lb l key = m → l[m].key = key := fun m hm h => by subst h; exact hke'
              rw [hT] at hf
              simp only [hi] at hf hlow hups hke
              have hil : i < l.length := by omega
              replace hke := hke i hil rfl
              have HCL := Lib.hid hcl
              have HLO := Lib.hid (And.intro hlow hups)
              have hi0 : (0 : Int) ≤ i := by omega
              have hilI : (i : Int) < l.length := by omega
              clear hke' hil' hi hT hc hrise hl100' hbl hcl hlow hups hlt hk' hlb
              by_cases h0 : i = 0
              · have HC1 := Lib.hid (fun W hW => HCL.out i hil W hW)
                rw [hke] at HC1
                have hiz : ((i : Int) == 0) = true := by rw [h0]; rfl
                have h0' := Lib.hid h0
                clear h0
                go_wp2_with fail
                refine hf.mono ?_
                rintro e w3 ⟨rfl, hb3⟩
                have hb3' : Below w.heap.size w w3 := HBL.out.trans (hb3.mono hbs)
                clear hf
                obtain ⟨b3, off3, hA3, q3⟩ := HC1.out w3 hb3'
                subst hA3
                go_wp2_with fail
                refine (HAL.out _).mono ?_
                rintro e w4 ⟨rfl, hb4⟩
                have hb4' : Below w.heap.size w w4 := hb3'.trans (hb4.mono hb3'.size)
                have HF4 := Lib.hid hb4'
                clear hb3 hb3' hb4 hb4'
                go_wp2_with fail
                go_ret
                exact ⟨rfl, HF4.out⟩
              · have HC1 := Lib.hid (fun W hW => HCL.out i hil W hW)
                rw [hke] at HC1
                obtain ⟨j, rfl⟩ : ∃ j, i = j + 1 := ⟨i - 1, by omega⟩
                have hlo1 : ltK l[j].key key = true := HLO.out.1 j (by omega) (by omega)
                have HC2 := Lib.hid (fun W hW => HCL.out j (by omega) W hW)
                obtain ⟨y, hy⟩ : ∃ y, l[j].key = y := ⟨_, rfl⟩
                rw [hy] at hlo1 HC2
                unfold ltK at hlo1
                have hyy := Lib.hid hy
                have hjn : ((j : Int) + 1 == 0) = false := by rw [beq_eq_false_iff_ne]; omega
                have hj0 : (0 : Int) ≤ j := by omega
                have hjl : (j : Int) < l.length := by omega
                have hjl2 : j < l.length := by omega
                have hjI : (j : Int) + 1 ≤ l.length := by omega
                have hwj : IntKind.i64.wrap (j : Int) = (j : Int) := by rw [IntKind.wrap_i64]; omega
                have hjp : (0 : Int) ≤ (j : Int) + 1 := by omega
                have hjt : ((j : Int) + 1).toNat = j + 1 := by omega
                clear hy h0
                go_wp2_with fail
                refine hf.mono ?_
                rintro e w3 ⟨rfl, hb3⟩
                have hb3' : Below w.heap.size w w3 := HBL.out.trans (hb3.mono hbs)
                clear hf
                obtain ⟨b3, off3, hA3, q3⟩ := HC1.out w3 hb3'
                subst hA3
                go_wp2_with fail
                refine (HAL.out _).mono ?_
                rintro e w4 ⟨rfl, hb4⟩
                have hb4' : Below w.heap.size w w4 := hb3'.trans (hb4.mono hb3'.size)
                obtain ⟨b5, off5, hA5, q5⟩ := HC2.out w4 hb4'
                cases hA5
                have HF4 := Lib.hid hb4'
                clear hb3 hb3' hb4 hb4'
                go_wp2_with fail
                go_ret
                exact ⟨rfl, HF4.out⟩
      · go_wp2_with fail
        refine (HAL.out _).mono ?_
        rintro e w3 ⟨rfl, hb3⟩
        go_wp2_with fail
        go_ret
        exact ⟨rfl, hb2'.trans (hb3.mono hb2'.size)⟩
    · have hd : decide (Rise l) = false := decide_eq_false hrise
      rw [hd]
      clear hd hrise
      go_wp2_with fail
      refine (HAL.out _).mono ?_
      rintro e w3 ⟨rfl, hb3⟩
      go_wp2_with fail
      go_ret
      exact ⟨rfl, hb2'.trans (hb3.mono hb2'.size)⟩

set_option maxRecDepth 100000 in
theorem lifted (os : Os) (started : os.Started) (H : Type) (enc : TypeId × Value → H) :
    ReturnsInHanded {} Try.checked os 5 .any (Rows.leafFindsSpec.pre6 enc Try.prog Try.f5 Rows.leafFindsRow.domain false) (Rows.leafFindsSpec.post enc Try.prog Try.f5 false true false false) := by
  refine returnsInHanded_of_change (C := Try.checked) own started (by kernel_rfl) Try.func5
    (ChangeSpec.witness6 (enc := enc) (C := Try.checked) false ⟨#[], #[.slice none 0 0, .string ByteArray.empty], []⟩ 8 (by kernel_rfl) (by kernel_rfl) (by kernel_rfl) (by kernel_rfl)) ?_
  intro W base args ds gs before hval0 hW hcnd _
  have hval : ∀ (j : Nat) t v, Try.f5.params[j]? = some t → args[j]? = some v → Value.okWide Try.prog W .any base t v := hval0
  have hW' := hW
  obtain ⟨p, q, hA0, hV, rfl, hfz, hnd⟩ := hW
  have hA : DataW.TrodAll enc Try.prog W 0 (fun _ => true) true Try.f5.params.toList args.toList ds p := hA0
  rw [Try.params5] at hA hval
  obtain ⟨v0, vs0, d0, ds0, p0, q0, hargs, rfl, rfl, h0, r00⟩ := trodAll_cons hA
  obtain ⟨v1, vs1, d1, ds1, p1, q1, rfl, rfl, rfl, h1, r01⟩ := trodAll_cons r00
  obtain ⟨rfl, rfl, rfl⟩ := trodAll_nil r01
  obtain rfl : args = #[v0, v1] := by cases args; simp_all
  obtain ⟨rfl, rfl⟩ := trodVars_none hV
  obtain ⟨l0, r0, i0, m0⟩ := reads_items (hval 0 22 v0 rfl rfl) h0
  obtain ⟨s1, rfl, rfl, rfl, z1⟩ := Go.ChangeMaps.open_string Try.underlying9 (hval 1 9 v1 rfl rfl) h1
  clear hA0 hval0
  refine (walk W v0 l0 r0 i0 s1 (le_of_maxLen z1)).mono fun e W' ⟨he, hb⟩ => ?_
  subst he
  exact ⟨_, rfl, law_post hW' rfl rfl (by kernel_rfl) (by kernel_rfl) hb⟩

theorem said : Rows.LeafFindsSaid :=
  OpenClaim.holds_of_wide 5 Try.f5 rfl rfl rfl rfl rfl rfl rfl ⟨rfl, rfl, rfl, rfl, rfl⟩ rfl rfl rfl rfl rfl (by kernel_rfl) Try.func5 (by kernel_rfl)
    (of_decide_eq_true (by kernel_rfl)) (by unfold Func.isWrapper; first | (rw [if_pos (by decide +kernel)]; kernel_rfl) | (rw [if_neg (by decide +kernel)]; exact ⟨rfl, rfl⟩))
    (fun os started H enc _ => lifted os started H enc)
end Go.Proofs.Ytbhacdoeacblpaa.leafFinds
