/-
  FreeHolds: a page that a view may read is not taken: what waits with a number above the eldest pinned one waits on; no page is lost, and none comes twice; for every two []int. Conditions: none but those of the given statement.
-/
import Derived.Test.YtjimjemogbphaaaQ5
import Derived.Test.YtjimjemogbphaaaFrameS
import Derived.Deep.QuietTactic
import Derived.BigQuiet
namespace Go.Proofs.Ytjimjemogbphaaa.freeHolds
open Go.ChangeShapes Go.WideShapes Go.ChangeAt Go.RowKit Go.Sort

theorem Reads1.at {w w' : World} {B : Nat} {v : Value} {l : List Int} (h : Reads1 w B v (l.map (.int .i64))) (hb : Below B w w') (k : Nat) (hk : k < l.length) :
    ∃ b off c, v = .slice (some ⟨b, off, none⟩) l.length c ∧ b < B ∧ w'.cell? ⟨b, off + k, none⟩ = some (.int .i64 l[k]) := by
  obtain ⟨A, c, rfl, h⟩ := h
  obtain ⟨b, off, rfl, hlt, hc⟩ := h (by simp; omega)
  exact ⟨b, off, c, by simp, hlt, (hb.cell (p := ⟨b, off + k, none⟩) hlt).trans (hc k _ (by simp [hk]))⟩
theorem Reads1.form {w : World} {B : Nat} {v : Value} {l : List Int} (h : Reads1 w B v (l.map (.int .i64))) : ∃ A c, v = .slice A l.length c := by
  obtain ⟨A, c, rfl, h⟩ := h
  exact ⟨A, c, by simp⟩

set_option maxRecDepth 1000000 in
theorem walk_out (w : World) (v0 : Value) (l0 : List Int) (r0 : Reads1 w w.heap.size v0 (l0.map (.int .i64))) (v1 : Value) (l1 : List Int) (r1 : Reads1 w w.heap.size v1 (l1.map (.int .i64))) (h0 : l0.length ≤ 9223372036854775807) (h1 : l1.length ≤ 9223372036854775807) (h : 30 < l0.length ∨ 60 < l1.length) :
    Calls Try.prog 4 #[v0, v1] w fun e w' => e = .returned (.bool true) ∧ Below w.heap.size w w' := by
  obtain ⟨A0, c0, rfl⟩ := Reads1.form r0
  obtain ⟨A1, c1, rfl⟩ := Reads1.form r1
  clear r0 r1
  generalize l0.length = n0 at *
  generalize l1.length = n1 at *
  rcases Nat.lt_or_ge 30 n0 with h2 | h2
  · have hb : decide ((30 : Int) < (n0 : Int)) = true := by simp; omega
    clear h h2
    go_enter Try.func4, Try.ntmps4
    go_wp2_with fail
    refine (alive6_any _).mono ?_
    rintro e w' ⟨rfl, hb⟩
    go_wp2_with fail
    go_ret
    exact ⟨rfl, hb⟩
  · have hb : decide ((30 : Int) < (n0 : Int)) = false := by simp; omega
    have hb1 : decide ((60 : Int) < (n1 : Int)) = true := by simp; omega
    clear h h2
    go_enter Try.func4, Try.ntmps4
    go_wp2_with fail
    refine (alive6_any _).mono ?_
    rintro e w' ⟨rfl, hb⟩
    go_wp2_with fail
    go_ret
    exact ⟨rfl, hb⟩

/-- The eldest of those that are pinned; 0 if there is none. -/
def Eld (l : List Int) (e : Int) : Prop := (l = [] ∧ e = 0) ∨ ∃ s, l.Perm (e :: s) ∧ ∀ y ∈ s, e ≤ y
theorem eld_first (x : Int) : Eld [x] x := .inr ⟨[], List.Perm.refl _, by simp⟩
theorem eld_less {l : List Int} {e x : Int} (h : Eld l e) (hx : x < e) (hl : l ≠ []) : Eld (l ++ [x]) x := by
  rcases h with ⟨h, _⟩ | ⟨s, hp, hm⟩
  · exact absurd h hl
  · refine .inr ⟨l, List.perm_append_singleton _ _, fun y hy => ?_⟩
    rcases List.mem_cons.1 (hp.mem_iff.1 hy) with rfl | h
    · omega
    · have := hm y h; omega
theorem eld_more {l : List Int} {e x : Int} (h : Eld l e) (hx : ¬ x < e) (hl : l ≠ []) : Eld (l ++ [x]) e := by
  rcases h with ⟨h, _⟩ | ⟨s, hp, hm⟩
  · exact absurd h hl
  · refine .inr ⟨x :: s, (List.perm_append_singleton _ _).trans ((hp.cons x).trans (List.Perm.swap _ _ _)), fun y hy => ?_⟩
    rcases List.mem_cons.1 hy with rfl | h
    · omega
    · exact hm y h

theorem parts_length (thr : Int) (m : List Due) : (dueOf thr m).length + (lateOf thr m).length = m.length := by
  unfold dueOf lateOf
  induction m with
  | nil => rfl
  | cons d r ih =>
    by_cases h : d.1 ≤ thr
    · rw [List.filter_cons_of_pos (by simpa using h), List.filter_cons_of_neg (by simp; omega)]
      simp only [List.length_cons]; omega
    · rw [List.filter_cons_of_neg (by simpa using h), List.filter_cons_of_pos (by simp; omega)]
      simp only [List.length_cons]; omega

/-- What comes: each one's number, and it was due. -/
def Come (l1 : List Int) (thr : Int) (l : List Int) : Prop := ∀ v ∈ l, ∃ i, ∃ h : i < l1.length, v = (i : Int) ∧ l1[i] ≤ thr
theorem come_due (l1 : List Int) (thr : Int) : Come l1 thr (whats (dueOf thr (mkd l1)) ++ []) := by
  intro v hv
  rw [List.append_nil] at hv
  obtain ⟨d, hd, rfl⟩ := List.mem_map.1 hv
  obtain ⟨hd1, hd2⟩ := List.mem_filter.1 hd
  obtain ⟨i, hi, rfl⟩ := mem_mkd hd1
  exact ⟨i, hi, rfl, by simpa using hd2⟩

set_option maxRecDepth 1000000 in
set_option maxHeartbeats 4000000 in
theorem walk_whole (w : World) (v0 : Value) (l0 : List Int) (r0 : Reads1 w w.heap.size v0 (l0.map (.int .i64))) (v1 : Value) (l1 : List Int) (r1 : Reads1 w w.heap.size v1 (l1.map (.int .i64))) (i1 : ∀ x ∈ l1, IsInt x) (h0 : l0.length ≤ 30) (h1 : l1.length ≤ 60) :
    Calls Try.prog 4 #[v0, v1] w fun e w' => e = .returned (.bool true) ∧ Below w.heap.size w w' := by
  obtain ⟨A0, c0, rfl⟩ := Reads1.form r0
  obtain ⟨A1, c1, rfl⟩ := Reads1.form r1
  have R := Lib.hid (And.intro r0 (And.intro r1 i1))
  obtain ⟨n0, hn0⟩ : ∃ n, l0.length = n := ⟨_, rfl⟩
  obtain ⟨n1, hn1⟩ : ∃ n, l1.length = n := ⟨_, rfl⟩
  have HN := Lib.hid (And.intro hn0 hn1)
  rw [hn0] at h0
  rw [hn1] at h1
  rw [hn0, hn1]
  clear r0 r1 hn0 hn1 i1
  have hb0 : decide ((30 : Int) < (n0 : Int)) = false := by simp; omega
  have hb1 : decide ((60 : Int) < (n1 : Int)) = false := by simp; omega
  have hnew := fre_new (w := w) (l := []) (v := .slice none 0 0) ⟨none, 0, rfl, by simp⟩ (by simp)
  go_enter Try.func4, Try.ntmps4
  go_wp2_with fail
  refine hnew.mono ?_
  rintro e w1 ⟨rfl, hf, hbw⟩
  have H1 := Lib.hid (And.intro hf hbw)
  clear hf hbw hnew
  go_wp2_with fail
  go_loopg [6, 7] n0 (fun g ev iv wr => ∃ (j : Nat) (e : Int), iv = .int .i64 j ∧ ev = .int .i64 e ∧ j + g = n0 ∧ Eld (l0.take j) e ∧ Fre w.heap.size wr w.heap.size [] 0 [] (l0.take j) ∧ Below w.heap.size w wr)
  case atStart => exact ⟨0, 0, rfl, rfl, by omega, .inl ⟨rfl, rfl⟩, H1.out.1, H1.out.2⟩
  case round =>
    clear H1 w1
    obtain ⟨j, e, rfl, rfl, hjg, hel, hf, hbw⟩ := hrel
    by_cases hlt : j < n0
    · obtain ⟨hn0, hn1⟩ := HN.out
      obtain ⟨b, off, c, hv, hbl, hck⟩ := Reads1.at R.out.1 hbw j (by omega)
      simp only [Value.slice.injEq] at hv
      obtain ⟨rfl, _, rfl⟩ := hv
      have hlj : (l0.take j).length = j := by simp; omega
      have e1 : l0.take (j + 1) = l0.take j ++ [l0[j]] := by rw [List.take_succ_eq_append_getElem]
      have hpn := fre_pin l0[j] hf hbw.size (by omega)
      have hck2 : ∀ w', Below w.heap.size wr w' → w'.cell? ⟨b, off + j, none⟩ = some (.int .i64 l0[j]) := fun w' hb' => (hb'.cell (p := ⟨b, off + j, none⟩) hbl).trans hck
      have HE := Lib.hid (And.intro e1 (And.intro hck2 (And.intro hel (And.intro hbw hlj))))
      generalize hx : l0[j] = x at *
      have hlt1 : (j : Int) < n0 := by omega
      clear hf hbw e1 hx hn0 hn1 hck2 hlj hel hbl
      go_wp2_with fail
      refine hpn.mono ?_
      rintro e' w2 ⟨rfl, hf2, hb2⟩
      have hc2 := HE.out.2.1 w2 hb2
      have H2 := Lib.hid (And.intro hf2 hb2)
      clear hf2 hb2 hpn hck
      have hfin : Fre w.heap.size w2 w.heap.size [] 0 [] (l0.take (j + 1)) := by
        rw [HE.out.1]
        exact H2.out.1.perm (List.Perm.refl _) (List.Perm.refl _) (List.perm_append_singleton _ _).symm
      have HF := Lib.hid (And.intro hfin (HE.out.2.2.2.1.trans H2.out.2))
      clear hfin
      rcases Nat.eq_zero_or_pos j with hj0 | hj0
      · subst hj0
        rw [Nat.add_zero] at hc2
        go_wp2
        go_roundg (n0 - 1)
        case measure => omega
        case rel =>
          refine ⟨0 + 1, x, by go_num, rfl, by omega, ?_, HF.out.1, HF.out.2⟩
          rw [HE.out.1]
          exact eld_first x
      · have hj1 : ((j : Int) == 0) = false := by simp; omega
        by_cases hxe : x < e
        · have hd : decide (x < e) = true := by simpa using hxe
          have HX := Lib.hid hxe
          clear hxe
          go_wp2
          go_roundg (n0 - (j + 1))
          case measure => omega
          case rel =>
            refine ⟨j + 1, x, by go_num, rfl, by omega, ?_, HF.out.1, HF.out.2⟩
            rw [HE.out.1]
            exact eld_less HE.out.2.2.1 HX.out (fun h => by have h2 := HE.out.2.2.2.2; rw [h] at h2; simp at h2; omega)
        · have hd : decide (x < e) = false := by simpa using hxe
          have HX := Lib.hid hxe
          clear hxe
          go_wp2
          go_roundg (n0 - (j + 1))
          case measure => omega
          case rel =>
            refine ⟨j + 1, e, by go_num, rfl, by omega, ?_, HF.out.1, HF.out.2⟩
            rw [HE.out.1]
            exact eld_more HE.out.2.2.1 (by have := HX.out; omega) (fun h => by have h2 := HE.out.2.2.2.2; rw [h] at h2; simp at h2; omega)
    · obtain rfl : j = n0 := by omega
      have hfull : l0.take j = l0 := List.take_of_length_le (by rw [HN.out.1]; exact Nat.le_refl _)
      rw [hfull] at hf hel
      have H3 := Lib.hid (And.intro hf (And.intro hbw hel))
      clear hf hbw hel hfull hjg hlt
      go_wp2_with fail
      go_loopg [8] n1 (fun g iv wr => ∃ (i : Nat), iv = .int .i64 i ∧ i + g = n1 ∧ Fre w.heap.size wr w.heap.size [] i (mkd (l1.take i)) l0 ∧ Below w.heap.size w wr)
      case atStart => exact ⟨0, rfl, by omega, by simpa [mkd] using H3.out.1, H3.out.2.1⟩
      case round =>
        obtain ⟨i, rfl, hig, hf, hbw⟩ := hrel
        by_cases hlt : i < n1
        · obtain ⟨hn0, hn1⟩ := HN.out
          obtain ⟨b, off, c, hv, hbl, hck⟩ := Reads1.at R.out.2.1 hbw i (by omega)
          simp only [Value.slice.injEq] at hv
          obtain ⟨rfl, _, rfl⟩ := hv
          have hli : (l1.take i).length = i := by simp; omega
          have e1 := take_mkd l1 i (by omega)
          have hgv := fre_give1 l1[i] i hf hbw.size (by rw [length_mkd]; omega) (by omega)
          have HE := Lib.hid (And.intro e1 hbw)
          generalize hx : l1[i] = x at *
          have hlt1 : (i : Int) < n1 := by omega
          clear hf hbw e1 hx hn0 hn1 hli hbl
          go_wp2_with fail
          refine hgv.mono ?_
          rintro e' w2 ⟨rfl, hf2, hb2⟩
          have H2 := Lib.hid (And.intro hf2 hb2)
          clear hf2 hb2 hgv hck
          go_wp2
          go_roundg (n1 - (i + 1))
          case measure => omega
          case rel =>
            refine ⟨i + 1, by go_num, by omega, ?_, HE.out.2.trans H2.out.2⟩
            rw [HE.out.1]
            exact H2.out.1.perm (List.Perm.refl _) (List.perm_append_singleton _ _).symm (List.Perm.refl _)
        · obtain rfl : i = n1 := by omega
          have hfull : l1.take i = l1 := List.take_of_length_le (by rw [HN.out.2]; exact Nat.le_refl _)
          rw [hfull] at hf
          have hel := H3.out.2.2
          obtain ⟨thr, hthr⟩ : ∃ thr : Int, (l0 = [] ∧ thr = 9223372036854775807) ∨ (l0 ≠ [] ∧ thr = e) := by
            rcases hel with ⟨h, _⟩ | ⟨s, hp, _⟩
            · exact ⟨_, .inl ⟨h, rfl⟩⟩
            · exact ⟨_, .inr ⟨fun h => by rw [h] at hp; exact absurd hp.length_eq (by simp), rfl⟩⟩
          have hthr2 : (l0 = [] ∧ thr = 9223372036854775807) ∨ ∃ s, l0.Perm (thr :: s) ∧ ∀ y ∈ s, thr ≤ y := by
            rcases hthr with h | ⟨h, rfl⟩
            · exact .inl h
            · rcases hel with ⟨h', _⟩ | h'
              · exact absurd h' h
              · exact .inr h'
          have hfew : ([] : List Int).length + (mkd l1).length ≤ 1000000 := by rw [length_mkd, HN.out.2]; simp; omega
          have hre := fre_release thr hf hbw.size (distinct_mkd l1) hthr2 hfew
          have hcm := come_due l1 thr
          have hpl := parts_length thr (mkd l1)
          rw [length_mkd, HN.out.2] at hpl
          have hll : (whats (dueOf thr (mkd l1)) ++ []).length = (dueOf thr (mkd l1)).length := by simp [whats]
          have hlate : ∀ d ∈ lateOf thr (mkd l1), d ∈ mkd l1 := fun d hd => (List.mem_filter.1 hd).1
          have hdl : Distinct (lateOf thr (mkd l1)) := by
            have h1 := distinct_mkd l1
            unfold Distinct at h1 ⊢
            exact h1.sublist ((List.filter_sublist (l := mkd l1) (p := fun d => decide (thr < d.1))).map _)
          generalize whats (dueOf thr (mkd l1)) ++ [] = ll at *
          generalize lateOf thr (mkd l1) = lt at *
          obtain ⟨n, hn⟩ : ∃ n, (dueOf thr (mkd l1)).length = n := ⟨_, rfl⟩
          rw [hn] at hre hpl hll
          have HT := Lib.hid (And.intro hcm (And.intro hlate (And.intro hthr (And.intro hdl (And.intro hbw hll)))))
          have hni : n ≤ i := by omega
          clear hf hbw hel hfull hig hlt hthr hthr2 hfew hcm hlate hdl hll hn H3
          go_wp2_with fail
          refine hre.mono ?_
          rintro e' w2 ⟨rfl, hf2, hb2⟩
          have hln := fre_len hf2
          rw [HT.out.2.2.2.2.2] at hln
          have H4 := Lib.hid (And.intro hf2 (HT.out.2.2.2.2.1.trans hb2))
          clear hf2 hb2 hre
          go_wp2_with fail
          refine hln.mono ?_
          rintro e' wq ⟨rfl, hwq⟩
          have hwq := hwq.symm
          subst hwq
          clear hln
          go_wp2_with fail
          go_loopg [10, 11, 12] n (fun g kv vv ov wr => ∃ (c : Nat) (lc : List Int), kv = .int .i64 c ∧ c + g = n ∧ lc.length = g ∧ Come l1 thr lc ∧ Fre w.heap.size wr w.heap.size lc i lt l0 ∧ Below w.heap.size w wr)
          case atStart => exact ⟨0, ll, rfl, by omega, HT.out.2.2.2.2.2, HT.out.1, H4.out.1, H4.out.2⟩
          case round =>
            clear H4 w2
            obtain ⟨c, lc, rfl, hcg, hlc, hco, hf, hbw⟩ := hrel
            by_cases hlt : c < n
            · have hne : lc ≠ [] := fun h => by subst h; simp at hlc; omega
              obtain ⟨x, s, hp, hm⟩ := int_least lc hne
              have htk := fre_take hf hbw.size hp hm
              obtain ⟨q, hq, rfl, hqt⟩ := hco x (hp.mem_iff.2 (by simp))
              have hsl : s.length + 1 = gk := by have := hp.length_eq; simp at this; omega
              have hcs : Come l1 thr s := fun v hv => hco v (hp.mem_iff.2 (by simp [hv]))
              have hq1 : q < i := by rw [HN.out.2] at hq; exact hq
              obtain ⟨b, off, cc, hv, hbl, hck⟩ := Reads1.at R.out.2.1 hbw q hq
              simp only [Value.slice.injEq] at hv
              obtain ⟨rfl, _, rfl⟩ := hv
              have hck2 : ∀ w', Below w.heap.size wr w' → w'.cell? ⟨b, off + q, none⟩ = some (.int .i64 l1[q]) := fun w' hb' => (hb'.cell (p := ⟨b, off + q, none⟩) hbl).trans hck
              have HQ := Lib.hid (And.intro hck2 (And.intro hcs hbw))
              generalize hx : l1[q] = x at *
              have hc1 : (c : Int) < n := by omega
              have hq2 : (q : Int) < i := by omega
              have hq3 : (0 : Int) ≤ q := by omega
              have hq4 : decide ((i : Int) ≤ (q : Int)) = false := by simp; omega
              have hq5 : decide ((q : Int) < 0) = false := by simp
              have hq6 : decide (i ≤ q) = false := by simp; omega
              have hthr := HT.out.2.2.1
              clear hf hbw hco hp hm hcs hck hck2 hq hx hlc hne hbl
              go_wp2_with fail
              refine htk.mono ?_
              rintro e' w2 ⟨rfl, hf2, hb2⟩
              have hc2 := HQ.out.1 w2 hb2
              have H2 := Lib.hid (And.intro hf2 (HQ.out.2.2.trans hb2))
              clear hf2 hb2 htk
              rcases hthr with ⟨h, _⟩ | ⟨h, hte⟩
              · obtain rfl : j = 0 := by rw [← HN.out.1, h]; rfl
                go_wp2
                go_roundg s.length
                case measure => omega
                case rel => exact ⟨c + 1, s, by go_num, by omega, rfl, HQ.out.2.1, H2.out.1, H2.out.2⟩
              · have hj0 : decide ((0 : Int) < (j : Int)) = true := by
                  have : l0.length ≠ 0 := fun h' => h (List.eq_nil_of_length_eq_zero h')
                  rw [HN.out.1] at this
                  simp; omega
                have hj1 : decide (0 < j) = true := by
                  have : l0.length ≠ 0 := fun h' => h (List.eq_nil_of_length_eq_zero h')
                  rw [HN.out.1] at this
                  simp; omega
                have hxe : decide (e < x) = false := by simp; omega
                clear h hte hqt
                go_wp2
                go_roundg s.length
                case measure => omega
                case rel => exact ⟨c + 1, s, by go_num, by omega, rfl, HQ.out.2.1, H2.out.1, H2.out.2⟩
            · obtain rfl : c = n := by omega
              obtain rfl : lc = [] := List.eq_nil_of_length_eq_zero (by omega)
              have hln := fre_len hf
              have hwt := fre_waiting hf
              have hlp : (lt.length : Int) = i - c := by omega
              obtain ⟨nl, hnl⟩ : ∃ nl, lt.length = nl := ⟨_, rfl⟩
              rw [hnl] at hwt hlp
              have H5 := Lib.hid (And.intro hf (And.intro hbw hnl))
              rw [show ([] : List Int).length = 0 from rfl] at hln
              have hlq : ((nl : Int) != (i : Int) - (c : Int)) = false := by simp; omega
              have hcn : (c : Int) ≤ i := by omega
              clear hf hbw hlt hco hcg hlc hnl hpl
              go_wp2_with fail
              refine hln.mono ?_
              rintro e' wq ⟨rfl, hwq⟩
              have hwq := hwq.symm
              subst hwq
              go_wp2_with fail
              refine hwt.mono ?_
              rintro e' wq ⟨rfl, hwq⟩
              have hwq := hwq.symm
              subst hwq
              clear hln hwt
              go_wp2_with fail
              go_loopg [13] j (fun g iv wr => ∃ (q : Nat), iv = .int .i64 q ∧ q + g = j ∧ Fre w.heap.size wr w.heap.size [] i lt (l0.drop q) ∧ Below w.heap.size w wr)
              case atStart => exact ⟨0, rfl, by omega, H5.out.1, H5.out.2.1⟩
              case round =>
                obtain ⟨q, rfl, hqg, hf, hbw⟩ := hrel
                by_cases hlt : q < j
                · have hql : q < l0.length := by rw [HN.out.1]; exact hlt
                  obtain ⟨b, off, cc, hv, hbl, hck⟩ := Reads1.at R.out.1 hbw q hql
                  simp only [Value.slice.injEq] at hv
                  obtain ⟨rfl, _, rfl⟩ := hv
                  have hdr : l0.drop q = l0[q] :: l0.drop (q + 1) := List.drop_eq_getElem_cons hql
                  rw [hdr] at hf
                  have hup := fre_unpin l0[q] hf hbw.size
                  rw [show decide (l0[q] ∈ l0[q] :: l0.drop (q + 1)) = true from decide_eq_true (List.mem_cons_self ..), List.erase_cons_head] at hup
                  generalize hx : l0[q] = x at *
                  have hq1 : (q : Int) < j := by omega
                  have HE := Lib.hid hbw
                  clear hf hbw hdr hx hql hbl
                  go_wp2_with fail
                  refine hup.mono ?_
                  rintro e' w2 ⟨rfl, hf2, hb2⟩
                  have H2 := Lib.hid (And.intro hf2 (HE.out.trans hb2))
                  clear hf2 hb2 hup hck
                  go_wp2
                  go_roundg (j - (q + 1))
                  case measure => omega
                  case rel => exact ⟨q + 1, by go_num, by omega, H2.out.1, H2.out.2⟩
                · obtain rfl : q = j := by omega
                  have hemp : l0.drop q = [] := List.drop_of_length_le (by rw [HN.out.1]; exact Nat.le_refl _)
                  rw [hemp] at hf
                  have H6 := Lib.hid (And.intro hf hbw)
                  clear hf hbw hemp hlt hqg
                  go_wp2_with fail
                  refine (alive6_any _).mono ?_
                  rintro e' w3 ⟨rfl, hb3⟩
                  have hbb := H6.out.2.trans (hb3.mono H6.out.2.size)
                  have hall : ∀ d ∈ lt, d.1 ≤ 9223372036854775807 := by
                    intro d hd
                    obtain ⟨z, hz, rfl⟩ := mem_mkd (HT.out.2.1 d hd)
                    exact (R.out.2.2 _ (List.getElem_mem hz)).2
                  have hdue : dueOf 9223372036854775807 lt = lt := List.filter_eq_self.2 (by intro d hd; simpa using hall d hd)
                  have hnone : lateOf 9223372036854775807 lt = [] := List.filter_eq_nil_iff.2 (by intro d hd; have := hall d hd; simp; omega)
                  have hfew : ([] : List Int).length + lt.length ≤ 1000000 := by rw [H5.out.2.2]; simp; omega
                  have hre := fre_release 9223372036854775807 (H6.out.1.below hb3) hbb.size HT.out.2.2.2.1 (.inl ⟨rfl, rfl⟩) hfew
                  rw [hdue, hnone, H5.out.2.2] at hre
                  have HB := Lib.hid hbb
                  have hle2 : ((nl : Int) == (i : Int) - (c : Int)) = true := by simp; omega
                  clear hb3 hbb hall hdue hnone hfew H6
                  go_wp2_with fail
                  refine hre.mono ?_
                  rintro e' w4 ⟨rfl, hf4, hb4⟩
                  have hwt := fre_waiting hf4
                  rw [show ([] : List Due).length = 0 from rfl] at hwt
                  have HB2 := Lib.hid (HB.out.trans hb4)
                  clear hre hf4 hb4 HB
                  go_wp2_with fail
                  refine hwt.mono ?_
                  rintro e' wq ⟨rfl, hwq⟩
                  have hwq := hwq.symm
                  subst hwq
                  clear hwt
                  go_wp2
                  go_ret
                  exact ⟨rfl, HB2.out⟩

theorem walk (w : World) (v0 : Value) (l0 : List Int) (r0 : Reads1 w w.heap.size v0 (l0.map (.int .i64))) (_i0 : ∀ x ∈ l0, IsInt x) (m0 : l0.length ≤ 9223372036854775807) (v1 : Value) (l1 : List Int) (r1 : Reads1 w w.heap.size v1 (l1.map (.int .i64))) (i1 : ∀ x ∈ l1, IsInt x) (m1 : l1.length ≤ 9223372036854775807) :
    Calls Try.prog 4 #[v0, v1] w fun e w' => e = .returned (.bool true) ∧ Below w.heap.size w w' := by
  by_cases h : 30 < l0.length ∨ 60 < l1.length
  · exact walk_out w v0 l0 r0 v1 l1 r1 m0 m1 h
  · exact walk_whole w v0 l0 r0 v1 l1 r1 i1 (by omega) (by omega)

set_option maxRecDepth 100000 in
theorem lifted (os : Os) (started : os.Started) (H : Type) (enc : TypeId × Value → H) :
    ReturnsInHanded {} Try.checked os 4 .any (Rows.freeHoldsSpec.pre6 enc Try.prog Try.f4 Rows.freeHoldsRow.domain false) (Rows.freeHoldsSpec.post enc Try.prog Try.f4 false true false false) := by
  refine returnsInHanded_of_change (C := Try.checked) own started (by kernel_rfl) Try.func4
    (ChangeSpec.witness6 (enc := enc) (C := Try.checked) false ⟨#[], #[.slice none 0 0, .slice none 0 0], []⟩ 8 (by kernel_rfl) (by kernel_rfl) (by kernel_rfl) (by kernel_rfl)) ?_
  intro W base args ds gs before hval0 hW hcnd _
  have hval : ∀ (j : Nat) t v, Try.f4.params[j]? = some t → args[j]? = some v → Value.okWide Try.prog W .any base t v := hval0
  have hW' := hW
  obtain ⟨p, q, hA0, hV, rfl, hfz, hnd⟩ := hW
  have hA : DataW.TrodAll enc Try.prog W 0 (fun _ => true) true Try.f4.params.toList args.toList ds p := hA0
  rw [Try.params4] at hA hval
  obtain ⟨v0, vs0, d0, ds0, p0, q0, hargs, rfl, rfl, h0, r00⟩ := trodAll_cons hA
  obtain ⟨v1, vs1, d1, ds1, p1, q1, rfl, rfl, rfl, h1, r01⟩ := trodAll_cons r00
  obtain ⟨rfl, rfl, rfl⟩ := trodAll_nil r01
  obtain rfl : args = #[v0, v1] := by cases args; simp_all
  obtain ⟨rfl, rfl⟩ := trodVars_none hV
  obtain ⟨l0, r0, i0, m0⟩ := reads_ints (hval 0 31 v0 rfl rfl) h0
  obtain ⟨l1, r1, i1, m1⟩ := reads_ints (hval 1 31 v1 rfl rfl) h1
  clear hA0 hval0
  refine (walk W v0 l0 r0 i0 m0 v1 l1 r1 i1 m1).mono fun e W' ⟨he, hb⟩ => ?_
  subst he
  exact ⟨_, rfl, law_post hW' rfl rfl (by kernel_rfl) (by kernel_rfl) hb⟩

theorem said : Rows.FreeHoldsSaid :=
  OpenClaim.holds_of_wide 4 Try.f4 rfl rfl rfl rfl rfl rfl rfl ⟨rfl, rfl, rfl, rfl, rfl⟩ rfl rfl rfl rfl rfl (by kernel_rfl) Try.func4 (by kernel_rfl)
    (of_decide_eq_true (by kernel_rfl)) (by unfold Func.isWrapper; first | (rw [if_pos (by decide +kernel)]; kernel_rfl) | (rw [if_neg (by decide +kernel)]; exact ⟨rfl, rfl⟩))
    (fun os started H enc _ => lifted os started H enc)

end Go.Proofs.Ytjimjemogbphaaa.freeHolds
