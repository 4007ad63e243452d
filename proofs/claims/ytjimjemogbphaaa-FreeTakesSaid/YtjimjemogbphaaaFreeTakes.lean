/-
  FreeTakes: pages are taken rising, each once; what is given back may be taken again, at once or when it is released; for every []int and int. Conditions: none but those of the given statement.
-/
import Derived.Test.YtjimjemogbphaaaQ7
import Derived.Test.YtjimjemogbphaaaB3
import Derived.Test.YtjimjemogbphaaaFrameS
import Derived.Deep.QuietTactic
import Derived.BigQuiet
namespace Go.Proofs.Ytjimjemogbphaaa.freeTakes
open Go.ChangeShapes Go.WideShapes Go.ChangeAt Go.RowKit Go.Sort

theorem Reads1.form {w : World} {B : Nat} {v : Value} {l : List Int} (h : Reads1 w B v (l.map (.int .i64))) : ∃ A c, v = .slice A l.length c := by
  obtain ⟨A, c, rfl, h⟩ := h
  exact ⟨A, c, by simp⟩

set_option maxRecDepth 1000000 in
theorem walk_out (w : World) (v0 : Value) (l0 : List Int) (r0 : Reads1 w w.heap.size v0 (l0.map (.int .i64))) (n : Int) (h0 : l0.length ≤ 9223372036854775807) (h : 60 < l0.length ∨ n < 0 ∨ (l0.length : Int) < n) :
    Calls Try.prog 5 #[v0, .int .i64 n] w fun e w' => e = .returned (.bool true) ∧ Below w.heap.size w w' := by
  obtain ⟨A0, c0, rfl⟩ := Reads1.form r0
  clear r0
  generalize l0.length = n0 at *
  rcases Nat.lt_or_ge 60 n0 with h2 | h2
  · have hb : decide ((60 : Int) < (n0 : Int)) = true := by simp; omega
    clear h h2
    go_enter Try.func5, Try.ntmps5
    go_wp2_with fail
    refine (alive6_any _).mono ?_
    rintro e w' ⟨rfl, hb⟩
    go_wp2_with fail
    go_ret
    exact ⟨rfl, hb⟩
  · have hb : decide ((60 : Int) < (n0 : Int)) = false := by simp; omega
    rcases Int.lt_or_le n 0 with h3 | h3
    · have hb1 : decide (n < 0) = true := by simpa using h3
      clear h h2 h3
      go_enter Try.func5, Try.ntmps5
      go_wp2_with fail
      refine (alive6_any _).mono ?_
      rintro e w' ⟨rfl, hb⟩
      go_wp2_with fail
      go_ret
      exact ⟨rfl, hb⟩
    · have hb1 : decide (n < 0) = false := by simpa using h3
      have hb2 : decide ((n0 : Int) < n) = true := by simp; omega
      clear h h2 h3
      go_enter Try.func5, Try.ntmps5
      go_wp2_with fail
      refine (alive6_any _).mono ?_
      rintro e w' ⟨rfl, hb⟩
      go_wp2_with fail
      go_ret
      exact ⟨rfl, hb⟩

set_option maxRecDepth 1000000 in
set_option maxHeartbeats 4000000 in
theorem walk_whole (w : World) (v0 : Value) (l0 : List Int) (r0 : Reads1 w w.heap.size v0 (l0.map (.int .i64))) (n : Nat) (h0 : l0.length ≤ 60) (h1 : n ≤ l0.length) :
    Calls Try.prog 5 #[v0, .int .i64 n] w fun e w' => e = .returned (.bool true) ∧ Below w.heap.size w w' := by
  have hnew := fre_new (Reads1.toO r0 (Nat.le_refl _) (F := []) (by simp)) (by omega)
  obtain ⟨A0, c0, rfl⟩ := Reads1.form r0
  obtain ⟨L, hL⟩ : ∃ n, l0.length = n := ⟨_, rfl⟩
  have HL := Lib.hid hL
  rw [hL] at h0 h1 hnew
  rw [hL]
  clear r0 hL
  have hb0 : decide ((60 : Int) < (L : Int)) = false := by simp; omega
  have hb1 : decide ((n : Int) < 0) = false := by simp
  have hb2 : decide ((L : Int) < (n : Int)) = false := by simp; omega
  have hb3 : decide (L < n) = false := by simp; omega
  go_enter Try.func5, Try.ntmps5
  go_wp2_with fail
  refine hnew.mono ?_
  rintro e w1 ⟨rfl, hf, hbw⟩
  have hln := fre_len hf
  rw [HL.out] at hln
  have H1 := Lib.hid (And.intro hf hbw)
  clear hf hbw hnew
  go_wp2_with fail
  refine hln.mono ?_
  rintro e wq ⟨rfl, hwq⟩
  have hwq := hwq.symm
  subst hwq
  clear hln
  go_wp2_with fail
  go_loopg [6, 7] n (fun g tv iv wr => ∃ (j : Nat) (T lj : List Int), iv = .int .i64 j ∧ j + g = n ∧ T.length = j ∧ lj.length + j = L ∧ (∀ q, ∀ h : q < T.length, q + 1 = T.length → ∀ y ∈ lj, T[q] ≤ y) ∧ FT w.heap.size wr w.heap.size lj 0 [] [] tv T ∧ Below w.heap.size w wr)
  case atStart =>
    obtain ⟨⟨F, h1, h2⟩, hbw⟩ := H1.out
    exact ⟨0, [], l0, rfl, by omega, rfl, by rw [HL.out]; rfl, fun q h => absurd h (by simp), ⟨F, h1, h2, World.ownsRow_nil _ _ _ _, by simp [Value.ownBlock]⟩, hbw⟩
  case round =>
    clear H1 w1
    obtain ⟨j, T, lj, rfl, hjg, hTj, hlj, hlast, hf, hbw⟩ := hrel
    by_cases hlt : j < n
    · have hne : lj ≠ [] := fun h => by subst h; simp at hlj; omega
      obtain ⟨x, s, hp, hm⟩ := int_least lj hne
      have hsl : s.length + (j + 1) = L := by have := hp.length_eq; simp at this; omega
      have htk := ft_take hf hbw.size hp hm
      have hxl : ∀ q, ∀ h : q < T.length, q + 1 = T.length → T[q] ≤ x := fun q h h2 => hlast q h h2 x (hp.mem_iff.2 (by simp))
      have HE := Lib.hid (And.intro hbw (And.intro hm (And.intro hsl hTj)))
      obtain ⟨A, c, hv⟩ := hf.form
      rw [hTj] at hv
      have hj1 : (j : Int) < n := by omega
      have hjb : j ≤ 60 := by omega
      subst hv
      clear hne hp hm hsl hf hbw hlast hlj
      go_wp2_with fail
      refine htk.mono ?_
      rintro e w2 ⟨rfl, hf, hb⟩
      have hbb := HE.out.1.trans hb
      have hra : (w2.alloc (.cells #[.int .i64 x] 3)).ownsRow 0 3 1 (.slice A j c) j (T.map (.int .i64)) := by
        obtain ⟨F, _, _, h3, _⟩ := hf
        rw [hTj] at h3
        exact World.ownsRow.alloc h3 _
      have hal : Below w2.heap.size w2 (w2.alloc (.cells #[.int .i64 x] 3)) := (Below.refl _ _).alloc (Nat.le_refl _) _
      have H2 := Lib.hid (And.intro (hf.below hal) (And.intro (hbb.trans (hal.mono hbb.size)) hbb))
      obtain ⟨i0, hi0, hzz0, hzz1, hzz2⟩ := info_parts Try.infoInt
      have hfin : ∀ v' w', w'.ownsRow 0 3 1 v' (j + 1) (T.map (.int .i64) ++ [.int .i64 x]) → Grown (w2.alloc (.cells #[.int .i64 x] 3)) (.slice A j c) v' w' →
          (∀ q, ∀ h : q < (T ++ [x]).length, q + 1 = (T ++ [x]).length → ∀ y ∈ s, (T ++ [x])[q] ≤ y) ∧ FT w.heap.size w' w.heap.size s 0 [] [] v' (T ++ [x]) ∧ Below w.heap.size w w' := by
        intro v' w' ho hg
        have h5 := ft_grown (ys := T ++ [x]) H2.out.1 H2.out.2.1.size (by simpa [HE.out.2.2.2] using ho) hg
        refine ⟨fun q h h2 y hy => ?_, h5.1, H2.out.2.1.trans h5.2⟩
        have hq : q = T.length := by simpa using h2
        subst hq
        simpa using HE.out.2.1 y hy
      have HF := Lib.hid hfin
      rcases Nat.eq_zero_or_pos j with hj0 | hj0
      · subst hj0
        clear htk hf hb hbb hal hfin hxl
        go_wp2_with (at_builtin; refine wpList_append_keeps rfl _ _ 31 3 i0 (.int .i64 0) 1 8 Try.underlying31 hi0 hzz0 hzz1 hzz2 rfl (by decide) rfl _ (.slice A 0 c) 0 _ rfl hra ⟨w2.heap.size, 0, none⟩ 1 1 rfl [.int .i64 x] rfl (cell_one_new _ _ _) (by intro u hu; simp at hu; subst hu; rfl) (by omega) (by unfold maxLen; omega) (by omega) ?_; intro v' w' hown' hgn)
        go_roundg (n - 1)
        case measure => omega
        case rel =>
          have h5 := HF.out v' w' (by simpa using hown') hgn
          exact ⟨0 + 1, T ++ [x], s, by go_num, by omega, by simp [HE.out.2.2.2], HE.out.2.2.1, h5⟩
      · obtain ⟨q, hq⟩ : ∃ q : Nat, (j : Int) - 1 = q := ⟨j - 1, by omega⟩
        have hqT : q < T.length := by omega
        obtain ⟨g, cc, hv, hck⟩ := hf.at q hqT
        simp only [Value.slice.injEq] at hv
        obtain ⟨rfl, hvj, rfl⟩ := hv
        have hxx : decide (x < T[q]) = false := by have := hxl q hqT (by omega); simp; omega
        generalize T[q] = y at *
        have hj2 : decide ((0 : Int) < (j : Int)) = true := by simp; omega
        have hj3 : decide (0 < j) = true := by simpa using hj0
        have hqj : (q : Int) < j := by omega
        have hq0 : (0 : Int) ≤ q := by omega
        have hTj' := Lib.hid hTj
        clear htk hf hb hbb hal hfin hxl hvj hqT hTj
        go_wp2_with (at_builtin; refine wpList_append_keeps rfl _ _ 31 3 i0 (.int .i64 0) 1 8 Try.underlying31 hi0 hzz0 hzz1 hzz2 rfl (by decide) rfl _ (.slice (some ⟨g, 0, none⟩) j c) j _ rfl hra ⟨w2.heap.size, 0, none⟩ 1 1 rfl [.int .i64 x] rfl (cell_one_new _ _ _) (by intro u hu; simp at hu; subst hu; rfl) (by omega) (by unfold maxLen; omega) (by omega) ?_; intro v' w' hown' hgn)
        go_roundg (n - (j + 1))
        case measure => omega
        case rel =>
          have h5 := HF.out v' w' (by simpa using hown') hgn
          exact ⟨j + 1, T ++ [x], s, by go_num, by omega, by simp [HE.out.2.2.2], HE.out.2.2.1, h5⟩
    · obtain rfl : j = n := by omega
      obtain ⟨R, hR⟩ : ∃ R, lj.length = R := ⟨_, rfl⟩
      have hal := fre_all hf.fre (by simp; omega)
      rw [List.length_nil, Nat.add_zero, hR] at hal
      obtain ⟨A, c, hv⟩ := hf.form
      rw [hTj] at hv
      have HE := Lib.hid (And.intro hf (And.intro hbw (And.intro hTj hR)))
      have hjb : j ≤ 60 := by omega
      rw [hR] at hlj
      subst hv
      clear hf hbw hlast hlt hjg hR
      go_wp2_with fail
      refine hal.mono ?_
      rintro e w2 ⟨vw, rfl, how, hb2⟩
      obtain ⟨Aw, cw, hvw⟩ := row_form how
      have hbb := HE.out.2.1.trans (hb2.mono HE.out.2.1.size)
      have H2 := Lib.hid (And.intro (HE.out.1.below hb2) hbb)
      subst hvw
      clear how hb2 hbb hal
      go_wp2_with fail
      go_loopg [11] j (fun g iv wr => ∃ (i : Nat) (ls : List Int) (m : List Due), iv = .int .i64 i ∧ i + g = j ∧ m.length = i / 2 ∧ ls.length + m.length + (j - i) = L ∧ Distinct m ∧ (∀ d ∈ m, d.2.1 ≤ ((i / 2 : Nat) : Int) ∧ d.1 = 9) ∧ FT w.heap.size wr w.heap.size ls (i / 2) m [] (.slice A j c) T ∧ Below w.heap.size w wr)
      case atStart =>
        exact ⟨0, lj, [], rfl, by omega, rfl, by rw [HE.out.2.2.2]; simp; omega, by unfold Distinct; simp, by simp, H2.out.1, H2.out.2⟩
      case round =>
        clear H2 w2
        obtain ⟨i, ls, m, rfl, hij, hml, hlen, hdm, hm9, hf, hbw⟩ := hrel
        by_cases hlt : i < j
        · have hiT : i < T.length := by omega
          obtain ⟨g, cc, hv, hck⟩ := hf.at i hiT
          simp only [Value.slice.injEq] at hv
          obtain ⟨rfl, hvj, rfl⟩ := hv
          obtain ⟨x, hx⟩ : ∃ x, T[i] = x := ⟨_, rfl⟩
          rw [hx] at hck
          have hi1 : (i : Int) < j := by omega
          have hi0 : (0 : Int) ≤ i := by omega
          rcases Nat.mod_two_eq_zero_or_one i with hmod | hmod
          · have htm : (i : Int).tmod 2 = 0 := by rw [Int.tmod_eq_emod_of_nonneg (by omega)]; omega
            have hbk := ft_back1 x hf hbw.size (by omega)
            have HI := Lib.hid (And.intro hml (And.intro hlen (And.intro hdm (And.intro hm9 (And.intro hbw hmod)))))
            clear hf hbw hml hlen hdm hm9 hvj hx hiT hmod
            go_wp2_with fail
            refine hbk.mono ?_
            rintro e w2 ⟨rfl, hf, hb⟩
            have H3 := Lib.hid (And.intro hf hb)
            clear hf hb hbk hck
            go_wp2
            go_roundg (j - (i + 1))
            case measure => omega
            case rel =>
              obtain ⟨hml, hlen, hdm, hm9, hbw, hmod⟩ := HI.out
              have h2 : (i + 1) / 2 = i / 2 := by omega
              exact ⟨i + 1, x :: ls, m, by go_num, by omega, by rw [h2, hml], by simp; omega, hdm, by rw [h2]; exact hm9, by rw [h2]; exact H3.out.1, hbw.trans H3.out.2⟩
          · have htm : (i : Int).tmod 2 = 1 := by rw [Int.tmod_eq_emod_of_nonneg (by omega)]; omega
            have hgv := ft_give1 9 x hf hbw.size (by omega) (by omega)
            have HI := Lib.hid (And.intro hml (And.intro hlen (And.intro hdm (And.intro hm9 (And.intro hbw hmod)))))
            clear hf hbw hml hlen hdm hm9 hvj hx hiT hmod
            go_wp2_with fail
            refine hgv.mono ?_
            rintro e w2 ⟨rfl, hf, hb⟩
            have H3 := Lib.hid (And.intro hf hb)
            clear hf hb hgv hck
            go_wp2
            go_roundg (j - (i + 1))
            case measure => omega
            case rel =>
              obtain ⟨hml, hlen, hdm, hm9, hbw, hmod⟩ := HI.out
              have h2 : (i + 1) / 2 = i / 2 + 1 := by omega
              refine ⟨i + 1, ls, (9, ((i / 2 + 1 : Nat) : Int), x) :: m, by go_num, by omega, by rw [h2, List.length_cons, hml], by simp; omega, ?_, ?_, by rw [h2]; exact H3.out.1, hbw.trans H3.out.2⟩
              · unfold Distinct at hdm ⊢
                rw [List.map_cons, List.nodup_cons]
                refine ⟨fun hin => ?_, hdm⟩
                obtain ⟨d, hd, he⟩ := List.mem_map.1 hin
                have := (hm9 d hd).1
                have he' : d.2.1 = ((i / 2 + 1 : Nat) : Int) := he
                omega
              · intro d hd
                rw [h2]
                rcases List.mem_cons.1 hd with rfl | hd
                · exact ⟨Int.le_refl _, rfl⟩
                · exact ⟨by have := (hm9 d hd).1; omega, (hm9 d hd).2⟩
        · obtain rfl : i = j := by omega
          obtain ⟨hh, hhe⟩ : ∃ hh : Nat, i / 2 = hh := ⟨_, rfl⟩
          have hq2 : (i : Int).tdiv 2 = (hh : Int) := by rw [Int.tdiv_eq_ediv_of_nonneg (by omega)]; omega
          have hq3 : (i : Int) / 2 = (hh : Int) := by omega
          have hqq : ((hh : Int) != hh) = false := by simp
          rw [Nat.sub_self, Nat.add_zero] at hlen
          have hwt := fre_waiting hf.fre
          have hall := fre_all hf.fre (by omega)
          rw [hml, hhe] at hwt
          rw [hlen] at hall
          have HI := Lib.hid (And.intro hml (And.intro hlen (And.intro hdm (And.intro hm9 (And.intro hbw (And.intro hf.fre hhe))))))
          have hRj : (R : Int) = (L : Int) - i := by omega
          clear hf hbw hml hlen hdm hm9 hlt hij hhe
          go_wp2_with fail
          refine hwt.mono ?_
          rintro e wq ⟨rfl, hwq⟩
          have hwq := hwq.symm
          subst hwq
          clear hwt
          go_wp2_with fail
          refine hall.mono ?_
          rintro e w3 ⟨v3, rfl, ho3, hb3⟩
          obtain ⟨A3, c3, hv3⟩ := row_form ho3
          subst hv3
          obtain ⟨hml, hlen, hdm, hm9, hbw, hf, hhe⟩ := HI.out
          have hbb := hbw.trans (hb3.mono hbw.size)
          have hdue : dueOf 9223372036854775807 m = m := List.filter_eq_self.2 (by intro d hd; have := (hm9 d hd).2; simp; omega)
          have hnone : lateOf 9223372036854775807 m = [] := List.filter_eq_nil_iff.2 (by intro d hd; have := (hm9 d hd).2; simp; omega)
          have hre := fre_release 9223372036854775807 (hf.below hb3) hbb.size hdm (.inl ⟨rfl, rfl⟩) (by omega)
          rw [hdue, hnone, hml, hhe] at hre
          have hl2 : (whats m ++ ls).length = L := by simp [whats]; omega
          have HB := Lib.hid (And.intro hbb hl2)
          generalize whats m ++ ls = lz at *
          clear hml hlen hdm hm9 hbw hf hhe hbb hdue hnone hl2 hb3 ho3 hall HI
          go_wp2_with fail
          refine hre.mono ?_
          rintro e w4 ⟨rfl, hf4, hb4⟩
          have H4 := Lib.hid (And.intro hf4 (HB.out.1.trans hb4))
          clear hf4 hb4 hre
          go_wp2_with fail
          refine (alive6_any _).mono ?_
          rintro e w5 ⟨rfl, hb5⟩
          have hf5 := H4.out.1.below hb5
          have hbb := H4.out.2.trans (hb5.mono H4.out.2.size)
          have hwt := fre_waiting hf5
          have hln := fre_len hf5
          have hli := fre_list hf5
          rw [List.length_nil] at hwt
          rw [HB.out.2] at hln hli
          have H5 := Lib.hid (And.intro hf5 hbb)
          clear hf5 hbb hb5
          go_wp2_with fail
          refine hwt.mono ?_
          rintro e wq ⟨rfl, hwq⟩
          have hwq := hwq.symm
          subst hwq
          clear hwt
          go_wp2_with fail
          refine hln.mono ?_
          rintro e wq ⟨rfl, hwq⟩
          have hwq := hwq.symm
          subst hwq
          clear hln
          go_wp2_with fail
          refine hli.mono ?_
          rintro e w6 ⟨v6, rfl, ho6, hb6⟩
          obtain ⟨A6, c6, hv6⟩ := row_form ho6
          obtain ⟨hf5, hbb⟩ := H5.out
          have hall := fre_all (hf5.below hb6) (by rw [HB.out.2]; simp; omega)
          rw [List.length_nil, Nat.add_zero, HB.out.2, show whats [] = [] from rfl, List.append_nil] at hall
          have H6 := Lib.hid (And.intro ho6 (And.intro hbb (And.intro hb6 (hbb.trans (hb6.mono hbb.size)))))
          subst hv6
          clear hf5 hbb hb6 ho6 hli H5
          go_wp2_with fail
          refine hall.mono ?_
          rintro e w7 ⟨v7, rfl, ho7, hb7⟩
          obtain ⟨A7, c7, hv7⟩ := row_form ho7
          obtain ⟨ho6, hbb, hb6, hb67⟩ := H6.out
          have hz : (lz.mergeSort leInt).length = L := by rw [List.length_mergeSort, HB.out.2]
          have r6 : Reads1 w7 w7.heap.size (.slice A6 L c6) ((lz.mergeSort leInt).map (.int .i64)) := ((row_reads1 ho6).below hb7).mono hb7.size
          have r7 : Reads1 w7 w7.heap.size v7 ((lz.mergeSort leInt).map (.int .i64)) := row_reads1 ho7
          have hsa := sameInts_any _ v7 (lz.mergeSort leInt) w7 r6 r7 (by rw [hz]; omega)
          have H7 := Lib.hid (hb67.trans (hb7.mono hb67.size))
          subst hv7
          clear r6 r7 ho6 hbb hb6 hb67 ho7 hb7 hz hall H6
          go_wp2_with fail
          refine hsa.mono ?_
          rintro e w8 ⟨rfl, hb8⟩
          have H8 := Lib.hid (H7.out.trans (hb8.mono H7.out.size))
          clear hsa hb8 H7
          go_wp2
          go_ret
          exact ⟨rfl, H8.out⟩

theorem walk (w : World) (v0 : Value) (l0 : List Int) (r0 : Reads1 w w.heap.size v0 (l0.map (.int .i64))) (_i0 : ∀ x ∈ l0, IsInt x) (m0 : l0.length ≤ 9223372036854775807) (n : Int) (_hn : IsInt n) :
    Calls Try.prog 5 #[v0, .int .i64 n] w fun e w' => e = .returned (.bool true) ∧ Below w.heap.size w w' := by
  by_cases h : 60 < l0.length ∨ n < 0 ∨ (l0.length : Int) < n
  · exact walk_out w v0 l0 r0 n m0 h
  · obtain ⟨N, rfl⟩ : ∃ N : Nat, n = N := ⟨n.toNat, by omega⟩
    exact walk_whole w v0 l0 r0 N (by omega) (by omega)

set_option maxRecDepth 100000 in
theorem lifted (os : Os) (started : os.Started) (H : Type) (enc : TypeId × Value → H) :
    ReturnsInHanded {} Try.checked os 5 .any (Rows.freeTakesSpec.pre6 enc Try.prog Try.f5 Rows.freeTakesRow.domain false) (Rows.freeTakesSpec.post enc Try.prog Try.f5 false true false false) := by
  refine returnsInHanded_of_change (C := Try.checked) own started (by kernel_rfl) Try.func5
    (ChangeSpec.witness6 (enc := enc) (C := Try.checked) false ⟨#[], #[.slice none 0 0, .int .i64 0], []⟩ 8 (by kernel_rfl) (by kernel_rfl) (by kernel_rfl) (by kernel_rfl)) ?_
  intro W base args ds gs before hval0 hW hcnd _
  have hval : ∀ (j : Nat) t v, Try.f5.params[j]? = some t → args[j]? = some v → Value.okWide Try.prog W .any base t v := hval0
  have hW' := hW
  obtain ⟨p, q, hA0, hV, rfl, hfz, hnd⟩ := hW
  have hA : DataW.TrodAll enc Try.prog W 0 (fun _ => true) true Try.f5.params.toList args.toList ds p := hA0
  rw [Try.params5] at hA hval
  obtain ⟨v0, vs0, d0, ds0, p0, q0, hargs, rfl, rfl, h0, r00⟩ := trodAll_cons hA
  obtain ⟨v1, vs1, d1, ds1, p1, q1, rfl, rfl, rfl, h1, r01⟩ := trodAll_cons r00
  obtain ⟨rfl, rfl, rfl⟩ := trodAll_nil r01
  obtain rfl : args = #[v0, v1] := by cases args; simp_all
  obtain ⟨rfl, rfl⟩ := trodVars_none hV
  obtain ⟨l0, r0, i0, m0⟩ := reads_ints (hval 0 31 v0 rfl rfl) h0
  obtain ⟨n1, rfl, rfl, rfl, w1⟩ := open_int Try.underlying3 (hval 1 3 v1 rfl rfl) h1
  clear hA0 hval0
  refine (walk W v0 l0 r0 i0 m0 n1 (isInt_of_wf w1)).mono fun e W' ⟨he, hb⟩ => ?_
  subst he
  exact ⟨_, rfl, law_post hW' rfl rfl (by kernel_rfl) (by kernel_rfl) hb⟩

theorem said : Rows.FreeTakesSaid :=
  OpenClaim.holds_of_wide 5 Try.f5 rfl rfl rfl rfl rfl rfl rfl ⟨rfl, rfl, rfl, rfl, rfl⟩ rfl rfl rfl rfl rfl (by kernel_rfl) Try.func5 (by kernel_rfl)
    (of_decide_eq_true (by kernel_rfl)) (by unfold Func.isWrapper; first | (rw [if_pos (by decide +kernel)]; kernel_rfl) | (rw [if_neg (by decide +kernel)]; exact ⟨rfl, rfl⟩))
    (fun os started H enc _ => lifted os started H enc)

end Go.Proofs.Ytjimjemogbphaaa.freeTakes
