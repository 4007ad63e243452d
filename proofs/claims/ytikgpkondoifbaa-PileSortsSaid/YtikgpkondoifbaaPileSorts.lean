/-
  PileSorts: of every numbers put one by one, and every numbers dropped (each that is there is gone), all others come out rising, and then nothing; for every two []int. Conditions: none but those of the given statement.
-/
import Derived.Test.YtikgpkondoifbaaP8
import Derived.Test.YtikgpkondoifbaaFrameS
namespace Go.Proofs.Ytikgpkondoifbaa.pileSorts
open Go.ChangeShapes Go.WideShapes Go.ChangeAt Go.RowKit

set_option maxRecDepth 1000000 in
theorem walk_out (w : World) (v0 : Value) (l0 : List Int) (r0 : Reads1 w w.heap.size v0 (l0.map (.int .i64))) (v1 : Value) (l1 : List Int) (r1 : Reads1 w w.heap.size v1 (l1.map (.int .i64))) (h0 : l0.length ≤ 9223372036854775807) (h1 : l1.length ≤ 9223372036854775807) (h : 200 < l0.length ∨ 60 < l1.length) :
    Calls Try.prog 4 #[v0, v1] w fun e w' => e = .returned (.bool true) ∧ Below w.heap.size w w' := by
  obtain ⟨A0, c0, rfl⟩ := r0.form
  obtain ⟨A1, c1, rfl⟩ := r1.form
  clear r0 r1
  generalize l0.length = n0 at *
  generalize l1.length = n1 at *
  rcases Nat.lt_or_ge 200 n0 with h2 | h2
  · have hb : decide ((200 : Int) < (n0 : Int)) = true := by simp; omega
    clear h
    go_enter Try.func4, Try.ntmps4
    go_wp2_with fail
    refine (alive_any _).mono ?_
    rintro e w' ⟨rfl, hb⟩
    go_wp2_with fail
    go_ret
    exact ⟨rfl, hb⟩
  · have hb : decide ((200 : Int) < (n0 : Int)) = false := by simp; omega
    have hb2 : decide ((60 : Int) < (n1 : Int)) = true := by simp; omega
    clear h
    go_enter Try.func4, Try.ntmps4
    go_wp2_with fail
    refine (alive_any _).mono ?_
    rintro e w' ⟨rfl, hb⟩
    go_wp2_with fail
    go_ret
    exact ⟨rfl, hb⟩

/-- Where the third loop stands: what is left, rising; nothing of it is less than the last one. -/
def At3 (base : Nat) (w1 : World) (p n : Nat) (la fi : Value) (k : Nat) (wr : World) : Prop :=
  ∃ s : List Int, Pil base wr p s ∧ s.Pairwise (fun a b => a ≤ b) ∧ s.length + k = n ∧ Below base w1 wr ∧ ((k = 0 ∧ la = .int .i64 0 ∧ fi = .bool true) ∨ ∃ y : Int, la = .int .i64 y ∧ fi = .bool false ∧ ∀ z ∈ s, y ≤ z)

set_option maxRecDepth 1000000 in
set_option maxHeartbeats 2000000 in
theorem walk_whole (w : World) (v0 : Value) (l0 : List Int) (r0 : Reads1 w w.heap.size v0 (l0.map (.int .i64))) (v1 : Value) (l1 : List Int) (r1 : Reads1 w w.heap.size v1 (l1.map (.int .i64))) (h0 : l0.length ≤ 200) (h1 : l1.length ≤ 60) :
    Calls Try.prog 4 #[v0, v1] w fun e w' => e = .returned (.bool true) ∧ Below w.heap.size w w' := by
  obtain ⟨A0, c0, rfl⟩ := r0.form
  obtain ⟨A1, c1, rfl⟩ := r1.form
  have R0 := Lib.hid r0
  have R1 := Lib.hid r1
  obtain ⟨n0, hn0⟩ : ∃ n, l0.length = n := ⟨_, rfl⟩
  obtain ⟨n1, hn1⟩ : ∃ n, l1.length = n := ⟨_, rfl⟩
  have HN := Lib.hid (And.intro hn0 hn1)
  rw [hn0] at h0
  rw [hn1] at h1
  rw [hn0, hn1]
  clear r0 r1 hn0 hn1
  have hb : decide ((200 : Int) < (n0 : Int)) = false := by simp; omega
  have hb2 : decide ((60 : Int) < (n1 : Int)) = false := by simp; omega
  go_enter Try.func4, Try.ntmps4
  go_wp2_with fail
  refine (pil_new (l := []) (w := w) ⟨none, 0, rfl, fun h => absurd h (by simp)⟩ (by simp)).mono ?_
  rintro e w1 ⟨rfl, hp, hb1⟩
  have H1 := Lib.hid (And.intro hp hb1)
  clear hp hb1
  go_wp2_with fail
  go_loopg [6] n0 (fun g i wr => ∃ k : Nat, i = .int .i64 k ∧ k + g = n0 ∧ Pil w.heap.size wr w.heap.size (l0.take k) ∧ Below w.heap.size w wr)
  case atStart => exact ⟨0, rfl, by omega, by simpa using H1.out.1, H1.out.2⟩
  case round =>
    clear H1 w1
    obtain ⟨k, rfl, hkg, hp, hbw⟩ := hrel
    by_cases hlt : k < n0
    · obtain ⟨hn0, hn1⟩ := HN.out
      obtain ⟨b, off, c, hv, hbl, hck⟩ := R0.out.at hbw k (by omega)
      simp only [Value.slice.injEq] at hv
      obtain ⟨rfl, _, rfl⟩ := hv
      have e1 : l0.take (k + 1) = l0.take k ++ [l0[k]] := by rw [List.take_succ_eq_append_getElem]
      have HE := Lib.hid e1
      have hpu := pil_put1 l0[k] hp hbw.size (by simp; omega)
      generalize hx : l0[k] = x at *
      have hlt1 : (k : Int) < n0 := by omega
      have HB := Lib.hid hbw
      clear hp hbw e1 hx hn0 hn1
      go_wp2_with fail
      refine hpu.mono ?_
      rintro e w2 ⟨rfl, hp2, hb2⟩
      have H2 := Lib.hid (And.intro hp2 hb2)
      clear hp2 hb2 hpu
      go_wp2
      go_roundg (n0 - (k + 1))
      case measure => omega
      case rel =>
        refine ⟨k + 1, by go_num, by omega, H2.out.1.perm ?_, HB.out.trans H2.out.2⟩
        rw [HE.out]
        exact (List.perm_append_singleton x (l0.take k)).symm
    · obtain rfl : k = n0 := by omega
      have hfull : l0.take k = l0 := List.take_of_length_le (by rw [HN.out.1]; exact Nat.le_refl _)
      rw [hfull] at hp
      have hz : (k : Int) ≤ 200 := by omega
      have H2 := Lib.hid (And.intro hp hbw)
      clear hp hbw hfull hlt hkg
      go_wp2_with fail
      go_loopg [7, 8] n1 (fun g nv i wr => ∃ (j : Nat) (m : List Int), i = .int .i64 j ∧ nv = .int .i64 (m.length : Nat) ∧ j + g = n1 ∧ m.length ≤ 200 ∧ Pil w.heap.size wr w.heap.size m ∧ Below w.heap.size w wr)
      case atStart => exact ⟨0, l0, rfl, by rw [HN.out.1], by omega, by rw [HN.out.1]; exact h0, H2.out.1, H2.out.2⟩
      case round =>
        clear H2
        obtain ⟨j, m, rfl, rfl, hjg, hml, hp, hbw⟩ := hrel
        by_cases hlt : j < n1
        · obtain ⟨hn0, hn1⟩ := HN.out
          obtain ⟨b, off, c, hv, hbl, hck⟩ := R1.out.at hbw j (by omega)
          simp only [Value.slice.injEq] at hv
          obtain ⟨rfl, _, rfl⟩ := hv
          have hdr := pil_drop l1[j] hp hbw.size
          have hler : (m.erase l1[j]).length = if l1[j] ∈ m then m.length - 1 else m.length := List.length_erase
          have hpos : l1[j] ∈ m → 0 < m.length := fun h => List.length_pos_of_mem h
          generalize hx : l1[j] = x at *
          have hlt1 : (j : Int) < n1 := by omega
          obtain ⟨q, hq⟩ : ∃ q, m.length = q := ⟨_, rfl⟩
          rw [hq] at hler hpos
          have HB := Lib.hid (And.intro hbw (And.intro hler hpos))
          have HQ := Lib.hid hq
          rw [hq]
          rw [hq] at hml
          clear hp hbw hx hn0 hn1 hler hpos hq
          cases hd : decide (x ∈ m)
          · rw [hd] at hdr
            have hnx : x ∉ m := by simpa using hd
            have HX := Lib.hid hnx
            clear hd hnx
            go_wp2_with fail
            refine hdr.mono ?_
            rintro e w2 ⟨rfl, hp2, hb2⟩
            have H2 := Lib.hid (And.intro hp2 hb2)
            clear hp2 hb2 hdr
            go_wp2
            go_roundg (n1 - (j + 1))
            case measure => omega
            case rel =>
              obtain ⟨hbw, hler, hpos⟩ := HB.out
              rw [if_neg HX.out] at hler
              exact ⟨j + 1, m.erase x, by go_num, by rw [hler], by omega, by omega, H2.out.1, hbw.trans H2.out.2⟩
          · rw [hd] at hdr
            have hxm : x ∈ m := by simpa using hd
            have HX := Lib.hid hxm
            have hq1 : 1 ≤ q := (HB.out.2.2 hxm)
            clear hd hxm
            go_wp2_with fail
            refine hdr.mono ?_
            rintro e w2 ⟨rfl, hp2, hb2⟩
            have H2 := Lib.hid (And.intro hp2 hb2)
            clear hp2 hb2 hdr
            go_wp2
            go_roundg (n1 - (j + 1))
            case measure => omega
            case rel =>
              obtain ⟨hbw, hler, hpos⟩ := HB.out
              rw [if_pos HX.out] at hler
              exact ⟨j + 1, m.erase x, by go_num, by rw [hler]; go_num, by omega, by omega, H2.out.1, hbw.trans H2.out.2⟩
        · obtain rfl : j = n1 := by omega
          have hst : At3 w.heap.size w w.heap.size m.length (.int .i64 0) (.bool true) 0 wr :=
            ⟨m.mergeSort leInt, hp.perm (List.mergeSort_perm m leInt).symm, srt_le m, by simp, hbw, .inl ⟨rfl, rfl, rfl⟩⟩
          generalize m.length = n at *
          have H3 := Lib.hid hst
          clear hst hp hbw hlt hjg
          go_wp2_with fail
          go_loopg [9, 10, 11] n (fun g la fi i wr => ∃ k : Nat, i = .int .i64 k ∧ k + g = n ∧ At3 w.heap.size w w.heap.size n la fi k wr)
          case atStart => exact ⟨0, rfl, by omega, H3.out⟩
          case round =>
            clear H3
            obtain ⟨k, rfl, hkg, s, hp, hsr, hsl, hbw, hla⟩ := hrel
            rcases s with _ | ⟨x, s⟩
            · obtain rfl : k = n := by simp at hsl; omega
              have htn := pil_take_none hp
              have HP := Lib.hid (And.intro hp hbw)
              clear hp hbw hsr hsl hkg hla
              go_wp2_with fail
              refine htn.mono ?_
              rintro e w2 ⟨rfl, rfl⟩
              clear htn
              go_wp2_with fail
              refine (alive_any _).mono ?_
              rintro e w3 ⟨rfl, hb3⟩
              obtain ⟨hp, hbw⟩ := HP.out
              have hln := pil_len (hp.below hb3)
              have HB := Lib.hid (hbw.trans (hb3.mono hbw.size))
              rw [List.length_nil] at hln
              clear hp hbw hb3 HP
              go_wp2_with fail
              refine hln.mono ?_
              rintro e w4 ⟨rfl, rfl⟩
              clear hln
              go_wp2
              go_ret
              exact ⟨rfl, HB.out⟩
            · have hkn : k < n := by simp at hsl; omega
              obtain ⟨hx, hs⟩ := List.pairwise_cons.1 hsr
              have htk := pil_take hp hbw.size (List.Perm.refl _) hx
              have hsl' : s.length + (k + 1) = n := by simp at hsl; omega
              have HP := Lib.hid (And.intro hbw (And.intro hx (And.intro hs hsl')))
              have hlt1 : (k : Int) < n := by omega
              have hgn : n ≤ k + gk := by omega
              clear hp hbw hx hs hsl hsl' hsr hkg
              rcases hla with ⟨rfl, rfl, rfl⟩ | ⟨y, rfl, rfl, hy⟩
              · go_wp2_with fail
                refine htk.mono ?_
                rintro e w2 ⟨rfl, hp2, hb2⟩
                have H2 := Lib.hid (And.intro hp2 hb2)
                clear hp2 hb2 htk
                go_wp2
                go_roundg (n - (0 + 1))
                case measure => omega
                case rel =>
                  obtain ⟨hbw, hx, hs, hsl⟩ := HP.out
                  exact ⟨0 + 1, by go_num, by omega, s, H2.out.1, hs, hsl, hbw.trans H2.out.2, .inr ⟨x, rfl, rfl, hx⟩⟩
              · have hxy : decide (x < y) = false := by have := hy x (by simp); simpa using this
                clear hy
                go_wp2_with fail
                refine htk.mono ?_
                rintro e w2 ⟨rfl, hp2, hb2⟩
                have H2 := Lib.hid (And.intro hp2 hb2)
                clear hp2 hb2 htk
                go_wp2
                go_roundg (n - (k + 1))
                case measure => omega
                case rel =>
                  obtain ⟨hbw, hx, hs, hsl⟩ := HP.out
                  exact ⟨k + 1, by go_num, by omega, s, H2.out.1, hs, hsl, hbw.trans H2.out.2, .inr ⟨x, rfl, rfl, hx⟩⟩

theorem walk (w : World) (v0 : Value) (l0 : List Int) (r0 : Reads1 w w.heap.size v0 (l0.map (.int .i64))) (_i0 : ∀ x ∈ l0, IsInt x) (m0 : l0.length ≤ 9223372036854775807)
    (v1 : Value) (l1 : List Int) (r1 : Reads1 w w.heap.size v1 (l1.map (.int .i64))) (_i1 : ∀ x ∈ l1, IsInt x) (m1 : l1.length ≤ 9223372036854775807) : Calls Try.prog 4 #[v0, v1] w fun e w' => e = .returned (.bool true) ∧ Below w.heap.size w w' := by
  by_cases h : 200 < l0.length ∨ 60 < l1.length
  · exact walk_out w v0 l0 r0 v1 l1 r1 m0 m1 h
  · exact walk_whole w v0 l0 r0 v1 l1 r1 (by omega) (by omega)

set_option maxRecDepth 100000 in
theorem lifted (os : Os) (started : os.Started) (H : Type) (enc : TypeId × Value → H) :
    ReturnsInHanded {} Try.checked os 4 .any (Rows.pileSortsSpec.pre6 enc Try.prog Try.f4 Rows.pileSortsRow.domain false) (Rows.pileSortsSpec.post enc Try.prog Try.f4 false true false false) := by
  refine returnsInHanded_of_change (C := Try.checked) own started (by kernel_rfl) Try.func4
    (ChangeSpec.witness6 (enc := enc) (C := Try.checked) false ⟨#[], #[.slice none 0 0, .slice none 0 0], []⟩ 8 (by kernel_rfl) (by kernel_rfl) (by kernel_rfl) (by kernel_rfl)) ?_
  intro W base args ds gs before hval0 hW hcnd _
  have hval : ∀ (j : Nat) t v, Try.f4.params[j]? = some t → args[j]? = some v → Value.okWide Try.prog W .any base t v := hval0
  have hW' := hW
  obtain ⟨p, q, hA0, hV, rfl, hfz, hnd⟩ := hW
  have hA : DataW.TrodAll enc Try.prog W 0 (fun _ => true) true Try.f4.params.toList args.toList ds p := hA0
  rw [Try.params4] at hA hval
  obtain ⟨v0, vs0, d0, ds0, p0, q0, hargs, rfl, rfl, h0, r00⟩ := trodAll_cons hA
  obtain ⟨v1, vs1, d1, ds1, p1, q1, rfl, rfl, rfl, h1, r01⟩ := trodAll_cons r00
  obtain ⟨rfl, rfl, rfl⟩ := trodAll_nil r01
  obtain rfl : args = #[v0, v1] := by cases args; simp_all
  obtain ⟨rfl, rfl⟩ := trodVars_none hV
  obtain ⟨l0, r0, i0, m0⟩ := reads_ints (hval 0 34 v0 rfl rfl) h0
  obtain ⟨l1, r1, i1, m1⟩ := reads_ints (hval 1 34 v1 rfl rfl) h1
  clear hA0 hval0
  refine (walk W v0 l0 r0 i0 m0 v1 l1 r1 i1 m1).mono fun e W' ⟨he, hb⟩ => ?_
  subst he
  exact ⟨_, rfl, law_post hW' rfl rfl (by kernel_rfl) (by kernel_rfl) hb⟩

theorem said : Rows.PileSortsSaid :=
  OpenClaim.holds_of_wide 4 Try.f4 rfl rfl rfl rfl rfl rfl rfl ⟨rfl, rfl, rfl, rfl, rfl⟩ rfl rfl rfl rfl rfl (by kernel_rfl) Try.func4 (by kernel_rfl)
    (of_decide_eq_true (by kernel_rfl)) (by unfold Func.isWrapper; first | (rw [if_pos (by decide +kernel)]; kernel_rfl) | (rw [if_neg (by decide +kernel)]; exact ⟨rfl, rfl⟩))
    (fun os started H enc _ => lifted os started H enc)

end Go.Proofs.Ytikgpkondoifbaa.pileSorts
