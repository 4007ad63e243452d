/-
  over's walk: a chain's pages and its value. over's Get, Pages and Drop; pages that are dropped one after the other.
-/
import Derived.Test.YtlignamakiiokaaGreatDoorMg37
import Derived.Shelf.Strings.BuilderK
import Derived.Test.YtlignamakiiokaaGreatDoorMg30
namespace Go.Proofs.YtlignamakiiokaaGreatDoor
open Go.RowKit Go.Sort Go.Lib


section
variable {p pd pf b : Nat} {s : PgS} {F : List Nat} {w : World}

set_option maxRecDepth 1000000 in
set_option maxHeartbeats 4000000 in
theorem owalk_any (first size : Int) (hf : IsInt first) (hz : IsInt size) (hy : Yg s) (h : PgIs p pd pf b s F w) :
    Calls Tryz.prog 49 #[.pointer (some ⟨p, 0, none⟩), .int .i64 first, .int .i64 size] w fun e w' => (∃ v, e = .returned (.tuple #[v, .string (wkB s first size), .int .i64 (wkE s first size)]) ∧ NInts w' w.heap.size v (wkL s first size)) ∧ Below w.heap.size w w' := by
  by_cases hbad : size < 1 ∨ 2000 < size
  · have e1 : wkE s first size = 1 := by unfold wkE; rw [if_pos hbad]
    have e2 : wkL s first size = [] := by unfold wkL; rw [e1]; rfl
    have e3 : wkB s first size = ⟨#[]⟩ := by unfold wkB; rw [e1]; rfl
    rw [e1, e2, e3]
    clear h hy
    by_cases c1 : size < 1
    · have g1 : decide (size < 1) = true := by simpa using c1
      clear hbad c1
      go_enter Tryz.func49, Tryz.ntmps49
      go_wp2_with fail
      exact bodyPost_ret (v := .tuple #[.slice none 0 0, .string ⟨#[]⟩, .int .i64 1]) (by simp [results, Tryz.results49, go_sem]) rfl ⟨⟨_, rfl, World.ownsRow_nil _ _ _ _⟩, Below.refl _ _⟩
    · have g1 : decide (size < 1) = false := by simpa using c1
      have g2 : decide (2000 < size) = true := by simp; omega
      clear hbad c1
      go_enter Tryz.func49, Tryz.ntmps49
      go_wp2_with fail
      exact bodyPost_ret (v := .tuple #[.slice none 0 0, .string ⟨#[]⟩, .int .i64 1]) (by simp [results, Tryz.results49, go_sem]) rfl ⟨⟨_, rfl, World.ownsRow_nil _ _ _ _⟩, Below.refl _ _⟩
  · have g1 : decide (size < 1) = false := by simp; omega
    have g2 : decide (2000 < size) = false := by simp; omega
    obtain ⟨z, rfl⟩ : ∃ z : Nat, size = z := ⟨size.toNat, by omega⟩
    obtain ⟨K, hK⟩ : ∃ K, nP z = K := ⟨_, rfl⟩
    have hKz : K = (z + 239) / 240 := hK.symm
    have e1 : wkE s first z = (wkTo s first z K).e := by unfold wkE; rw [if_neg hbad, Int.toNat_natCast, hK]
    have hstart : IsBuilder 179 5 w.heap.size w.heap.size (byteCells []) (w.alloc (.cells #[.pointer none, .slice none 0 0] 179)) :=
      .inl ⟨Nat.le_refl _, .slice none 0 0, heap_alloc_new _ _, World.ownsRow_nil _ _ _ _, by simp [Value.ownBlock]⟩
    have HL := Lib.hid (And.intro h (And.intro hy (And.intro hstart (And.intro e1 (And.intro hK hKz)))))
    have hzb : z ≤ 2000 := by omega
    have hz0 : 1 ≤ z := by omega
    clear h hy hstart e1 hK hKz hbad
    go_enter Tryz.func49, Tryz.ntmps49
    go_wp2_with fail
    obtain ⟨B, hB⟩ : ∃ B, w.heap.size = B := ⟨_, rfl⟩
    have HBB := Lib.hid hB
    rw [hB]
    clear hB
    go_loopg [9, 11, 12] K (fun g lv idv fv wr => ∃ j : Nat, j + g = K ∧ (wkTo s first z j).e = 0 ∧ idv = .int .i64 (wkTo s first z j).id ∧ IsInt (wkTo s first z j).id ∧ fv = .int .i64 ((z : Int) - 240 * j) ∧
      NInts wr (B + 1) lv (wkTo s first z j).ids ∧ IsBuilder 179 5 B B (byteCells (wkTo s first z j).bs) wr ∧ Below B w wr ∧ B + 1 ≤ wr.heap.size)
    case atStart =>
      refine ⟨0, by omega, rfl, rfl, hf, by go_num, World.ownsRow_nil _ _ _ _, ?_, ?_, by rw [← HBB.out]; simp⟩
      · rw [← HBB.out]; exact HL.out.2.2.1
      · rw [← HBB.out]; exact (Below.refl _ _).alloc (Nat.le_refl _) _
    case round =>
      obtain ⟨j, hjg, he, rfl, hidi, rfl, hrow, hbd, hbl, hsz⟩ := hrel
      obtain ⟨hp, hy, _, e1, hK, hKz⟩ := HL.out
      have hlens := wkTo_lens s hy first z j
      have hnext : wkTo s first z (j + 1) = wkStep s ((z : Int) - 240 * j) (wkTo s first z j) := rfl
      by_cases hlt : j < K
      · have hleft : (0 : Int) < (z : Int) - 240 * j := by omega
        obtain ⟨L, hL⟩ : ∃ L : Int, (z : Int) - 240 * j = L := ⟨_, rfl⟩
        rw [hL] at hleft hnext ⊢
        have gL : decide ((0 : Int) < L) = true := by simpa using hleft
        have hLb : L ≤ 2000 := by omega
        have gw : IntKind.i64.wrap (L - 240) = L - 240 := IntWalk.i64_in _ (by omega)
        have hLw : (z : Int) - 240 * ((j + 1 : Nat) : Int) = L - 240 := by rw [← hL]; omega
        have hst := fun i => @wkTo_stuck s first z i
        generalize hstt : wkTo s first z j = st at *
        obtain ⟨e0, id, ids, bs⟩ := st
        simp only at he hidi hrow hbd hlens hnext ⊢
        subst he
        have hpr := hp.below (by rw [HBB.out]; exact hbl)
        have hrd := gread_y id hidi hy hpr
        rcases hy.rd id with ⟨r1, r2, r3, r4⟩ | hr
        · have hbody := hy.body r2
          have hrd1 : Calls Tryz.prog 119 #[.pointer (some ⟨p, 0, none⟩), .int .i64 id] wr fun e w' => e = .returned (.tuple #[.agg #[.int .i64 (s.H id).kind, .int .i64 (s.H id).next, .string (s.H id).body], .int .i64 0]) ∧ Below wr.heap.size wr w' := hrd.mono fun e w' he => by
            rcases he.1 with ⟨_, _, h3⟩ | ⟨h3, _⟩
            · exact ⟨h3, he.2⟩
            · exact absurd r1 h3
          obtain ⟨k, hk⟩ : ∃ k, (s.H id).kind = k := ⟨_, rfl⟩
          obtain ⟨n, hn⟩ : ∃ n, (s.H id).next = n := ⟨_, rfl⟩
          obtain ⟨t, ht⟩ : ∃ t, (s.H id).body = t := ⟨_, rfl⟩
          rw [hk, hn, ht] at hrd1
          unfold wkStep at hnext
          simp only [ne_eq, not_true, if_false, r1] at hnext
          rw [hk, hn, ht] at hnext
          have hin : IsInt n := by unfold IsInt; omega
          have htz : t.size ≤ 240 := by rw [← ht]; exact hbody.1
          have HR := Lib.hid (And.intro hrow (And.intro hbd (And.intro hbl (And.intro hsz (And.intro hnext (And.intro hjg (And.intro hst (And.intro hstt (And.intro hLw (And.intro hlens (And.intro hin hlt)))))))))))
          have HE := Lib.hid (And.intro e1 (And.intro hK (And.intro hKz hzb)))
          clear hrow hbd hbl hsz hnext hjg hst hstt hLw hlens hin hp hy e1 hK hKz hpr hrd hidi r1 r2 r3 r4 hbody hk hn ht hlt hL hleft hz0 hzb
          go_wp2_with fail
          refine hrd1.mono ?_
          rintro e w1 ⟨rfl, hb1⟩
          obtain ⟨hrow, hbd, hbl, hsz, -⟩ := HR.out
          have hba := alloc_below (w := w1) (.cells #[.int .i64 k, .int .i64 n, .string t] 53)
          have hbx := Has.made w1 53 #[.int .i64 k, .int .i64 n, .string t]
          have hb2 : Below wr.heap.size wr (w1.alloc (.cells #[.int .i64 k, .int .i64 n, .string t] 53)) := hb1.trans (hba.mono hb1.size)
          have hrg := right_any k n t L (w1.alloc (.cells #[.int .i64 k, .int .i64 n, .string t] 53))
          have hxi := hbx.inside
          have hbs := hbl.size
          have hw1B : B < w1.heap.size := by have := hb1.size; omega
          have H2 := Lib.hid (And.intro (hrow.below hb2) (And.intro (bldO_below hbd hb2) (And.intro (hbl.trans (hb2.mono (by omega))) (And.intro hbx (Nat.le_trans hsz hb2.size)))))
          clear hrow hbd hbl hsz hba hbx hb1 hb2 hrd1 hbs
          by_cases hR : rightP k n t.size L
          · rw [decide_eq_true hR] at hrg
            have HRR := Lib.hid hR
            clear hR
            go_wp2_with fail
            refine hrg.mono ?_
            rintro e w3 ⟨rfl, hb3⟩
            obtain ⟨hrow, hbd, hbl, hbx, hsz⟩ := H2.out
            have hx3 := hbx.below hb3 hxi
            have q1 := hx3.cell 1
            have q2 := hx3.cell 2
            simp at q1 q2
            have hx3i := hx3.inside
            have H3 := Lib.hid (And.intro (hrow.below hb3) (And.intro (bldO_below hbd hb3) (And.intro (hbl.trans (hb3.mono (by omega))) (And.intro hx3 (Nat.le_trans hsz hb3.size)))))
            have hr3 := hrow.below hb3
            have hz3 : B + 1 ≤ w3.heap.size := Nat.le_trans hsz hb3.size
            have hidl : ids.length ≤ 1000000 := by have := HR.out.2.2.2.2.2.2.2.2.2.1; have := HR.out.2.2.2.2.2.2.2.2.2.2.2; have := HE.out.2.2.1; have := HE.out.2.2.2; omega
            clear hrow hbd hbl hbx hsz hb3 hrg hx3 hxi
            go_wp2_with (at_builtin; refine append_num rfl _ _ rfl (B + 1) w3 u9 ids rfl hr3 id rfl hidl hz3 ?_; intro v4 w4 hr4 hb4 hg4; have hx4 := hasO_grown (H3.out.2.2.2.1.alloc _) (by decide) (World.ownsRow.alloc hr3 _) hg4; have q1 := hx4.cell 1; have q2 := hx4.cell 2; simp at q1 q2; have hxi4 := hx4.inside; have hbd4 := bldO_grown (bldO_below H3.out.2.1 (alloc_below _)) (World.ownsRow.alloc hr3 _) hg4; have H4 := Lib.hid (And.intro hr4 (And.intro hb4 (And.intro hx4 hbd4))); clear hr4 hb4 hg4 hx4 hbd4)
            obtain ⟨hr4, hb4, hx4, hbd4⟩ := H4.out
            obtain ⟨-, -, hbl3, -, hsz3⟩ := H3.out
            have hwr := bwrite_keeps t hbd4 (by have := HR.out.2.2.2.2.2.2.2.2.2.1; have := HR.out.2.2.2.2.2.2.2.2.2.2.2; have := HE.out.2.2.1; have := HE.out.2.2.2; omega) (by omega)
            clear hr4 hb4 hx4 hbd4 hbl3 hsz3
            refine hwr.mono ?_
            rintro e w5 ⟨rfl, hbd5, hb5, hkb5⟩
            obtain ⟨hr4, hb4, hx4, hbd4⟩ := H4.out
            obtain ⟨-, -, hbl3, -, hsz3⟩ := H3.out
            have hxB : w1.heap.size ≠ B := by omega
            have hx5 := hkb5 _ _ _ hxB (by decide) hx4
            have q1 := hx5.cell 1
            simp at q1
            have hxi5 := hx5.inside
            have hbd6 : IsBuilder 179 5 B B (byteCells (bs ++ t.data.toList)) w5 := .inr hbd5
            have hr5 := hr4.beside hkb5 (Nat.lt_succ_self _)
            have H5 := Lib.hid (And.intro hr5 (And.intro hbd6 (And.intro ((hbl3.trans (hb4.mono (Nat.le_succ _))).trans hb5) (Nat.le_trans hsz3 (Nat.le_trans hb4.size hb5.size)))))
            clear hwr hr4 hb4 hx4 hbd4 hbl3 hsz3 hbd5 hbd6 hb5 hkb5 hxB hx5 hr5
            go_wp2_with fail
            go_roundg (K - (j + 1))
            case measure => have := HR.out.2.2.2.2.2.1; have := HR.out.2.2.2.2.2.2.2.2.2.2.2; omega
            case rel =>
              obtain ⟨-, -, -, -, hnext, hjg, -, -, hLw, -, hin, hlt⟩ := HR.out
              rw [if_pos HRR.out] at hnext
              refine ⟨j + 1, by omega, by rw [hnext], by rw [hnext], by rw [hnext]; exact hin, by rw [hLw], ?_, ?_, H5.out.2.2.1, H5.out.2.2.2⟩
              · rw [hnext]; exact H5.out.1
              · rw [hnext]; exact H5.out.2.1
          · rw [decide_eq_false hR] at hrg
            have HRR := Lib.hid hR
            clear hR
            go_wp2_with fail
            refine hrg.mono ?_
            rintro e w3 ⟨rfl, hb3⟩
            have hbw : Below B w w3 := H2.out.2.2.1.trans (hb3.mono (Nat.le_of_lt (Nat.lt_of_lt_of_le hw1B (Nat.le_of_lt hxi))))
            have HB3 := Lib.hid hbw
            clear hbw hb3 hrg
            go_wp2_with fail
            obtain ⟨-, -, -, -, hnext, hjg, hst, hstt, -, -, -, hlt⟩ := HR.out
            rw [if_neg HRR.out] at hnext
            have hfin : wkTo s first z K = ⟨15, id, ids, bs⟩ := by rw [@wkTo_stuck s first z (j + 1) (by rw [hnext]; simp) K (by omega)]; exact hnext
            have e2 : wkE s first z = 15 := by rw [HE.out.1, hfin]
            have e3 : wkL s first z = [] := by unfold wkL; rw [e2]; rfl
            have e4 : wkB s first z = ⟨#[]⟩ := by unfold wkB; rw [e2]; rfl
            rw [e2, e3, e4, HBB.out]
            exact bodyPost_ret (v := .tuple #[.slice none 0 0, .string ⟨#[]⟩, .int .i64 15]) (by simp [results, Tryz.results49, go_sem]) rfl ⟨⟨_, rfl, World.ownsRow_nil _ _ _ _⟩, HB3.out⟩
        · have hne : rdE s id ≠ 0 := by rcases hr with ⟨h1, _⟩ | ⟨h1, _⟩ <;> rw [h1] <;> decide
          have hrd1 : Calls Tryz.prog 119 #[.pointer (some ⟨p, 0, none⟩), .int .i64 id] wr fun e w' => e = .returned (.tuple #[.agg #[.int .i64 0, .int .i64 0, .string ⟨#[]⟩], .int .i64 (rdE s id)]) ∧ Below wr.heap.size wr w' := hrd.mono fun e w' he => by
            rcases he.1 with ⟨h3, _⟩ | ⟨_, h3⟩
            · exact absurd h3 hne
            · exact ⟨h3, he.2⟩
          unfold wkStep at hnext
          simp only [ne_eq, not_true, if_false, hne, not_false_eq_true, if_true] at hnext
          have hfin : wkTo s first z K = ⟨rdE s id, id, ids, bs⟩ := by rw [@wkTo_stuck s first z (j + 1) (by rw [hnext]; exact hne) K (by omega)]; exact hnext
          have e2 : wkE s first z = rdE s id := by rw [e1, hfin]
          have e3 : wkL s first z = [] := by unfold wkL; rw [e2, if_neg hne]
          have e4 : wkB s first z = ⟨#[]⟩ := by unfold wkB; rw [e2, if_neg hne]
          obtain ⟨r, hr'⟩ : ∃ r, rdE s id = r := ⟨_, rfl⟩
          rw [hr'] at hrd1 hne e2
          have HE2 := Lib.hid (And.intro e2 (And.intro e3 e4))
          have g4 : (r != 0) = true := by simpa using hne
          have HR := Lib.hid (And.intro hbl hsz)
          clear hrow hbd hbl hsz hnext hjg hst hstt hLw hlens hp hy e1 hK hKz hpr hrd hidi hlt hL hleft hz0 hzb hr hne hfin e2 e3 e4 hr'
          go_wp2_with fail
          refine hrd1.mono ?_
          rintro e w1 ⟨rfl, hb1⟩
          have hb2 := HR.out.1.trans ((hb1.trans ((alloc_below (w := w1) (.cells #[.int .i64 0, .int .i64 0, .string ⟨#[]⟩] 53)).mono hb1.size)).mono (Nat.le_of_succ_le HR.out.2))
          have HB2 := Lib.hid hb2
          clear hb1 hb2 hrd1
          go_wp2_with fail
          rw [HE2.out.1, HE2.out.2.1, HE2.out.2.2, HBB.out]
          exact bodyPost_ret (v := .tuple #[.slice none 0 0, .string ⟨#[]⟩, .int .i64 r]) (by simp [results, Tryz.results49, go_sem]) rfl ⟨⟨_, rfl, World.ownsRow_nil _ _ _ _⟩, HB2.out⟩
      · obtain rfl : j = K := by omega
        obtain ⟨L, hL⟩ : ∃ L : Int, (z : Int) - 240 * j = L := ⟨_, rfl⟩
        have gL : decide ((0 : Int) < L) = false := by simp; omega
        rw [hL]
        clear hL
        have e2 : wkE s first z = 0 := by rw [e1, he]
        have e3 : wkL s first z = (wkTo s first z j).ids := by unfold wkL; rw [if_pos e2, Int.toNat_natCast, hK]
        have e4 : wkB s first z = ⟨(wkTo s first z j).bs.toArray⟩ := by unfold wkB; rw [if_pos e2, Int.toNat_natCast, hK]
        generalize hstt : wkTo s first z j = st at *
        obtain ⟨e0, id, ids, bs⟩ := st
        simp only at he hidi hrow hbd hlens e3 e4 ⊢
        have HE2 := Lib.hid (And.intro e2 (And.intro e3 e4))
        have hst := Go.Proofs.Any.Builder_String_any_k Tryz.lays169 Tryz.Builder_Extra_169 B B _ wr (IsBuilderF.of hbd) (Nat.le_of_succ_le hsz)
        obtain ⟨A, c, hform⟩ := rform3 hrow
        subst hform
        have HR := Lib.hid (And.intro hrow (And.intro hbl hsz))
        obtain ⟨m, hm⟩ : ∃ m, ids.length = m := ⟨_, rfl⟩
        have HM := Lib.hid hm
        rw [hm]
        clear hrow hbl hbd hsz hp hy e1 hK hKz e2 e3 e4 hlens hidi he hlt hjg hz0 hzb hm hstt
        go_wp2_with fail
        refine hst.mono ?_
        rintro e w1 ⟨rfl, -, hb1, ho1⟩
        have H1 := Lib.hid (And.intro hb1 ho1)
        clear hb1 ho1 hst
        go_wp2_with fail
        rw [HE2.out.1, HE2.out.2.1, HE2.out.2.2, HBB.out]
        refine bodyPost_ret (v := .tuple #[.slice A m c, .string ⟨bs.toArray⟩, .int .i64 0]) (by simp [results, Tryz.results49, go_sem]) rfl ⟨⟨_, rfl, ?_⟩, HR.out.2.1.trans H1.out.1⟩
        have hM := HM.out
        subst hM
        have hrow := HR.out.1
        refine ⟨by simp, ?_⟩
        rcases hrow.2 with hnil | ⟨g, cap, cur, hv, hbg, hg, rest⟩
        · exact .inl hnil
        · exact .inr ⟨g, cap, cur, hv, by omega, H1.out.2 g _ hg (by intro e; cases e; omega) (by intro c fz e; cases e), rest⟩
end
end Go.Proofs.YtlignamakiiokaaGreatDoor

namespace Go.Proofs.YtlignamakiiokaaGreatDoor
open Go.RowKit Go.Sort Go.Lib

def drAll (s : PgS) (L : List Int) : PgS := L.foldl drS s
theorem drAll_snoc (s : PgS) (L : List Int) (x : Int) : drAll s (L ++ [x]) = drS (drAll s L) x := by simp [drAll]
theorem drAll_at (s : PgS) : ∀ (L : List Int) (y : Int), y ∉ L → (drAll s L).H y = s.H y := by
  intro L
  induction L generalizing s with
  | nil => intro y _; rfl
  | cons x L ih =>
    intro y hy
    show (drAll (drS s x) L).H y = _
    rw [ih (drS s x) y (fun h => hy (List.mem_cons_of_mem _ h))]
    show (upd s.H x (chg0 3)) y = _
    exact upd_other _ _ (fun e => hy (by rw [e]; simp))
theorem drAll_n (s : PgS) : ∀ L : List Int, (drAll s L).n = s.n + L.length := by
  intro L
  induction L generalizing s with
  | nil => rfl
  | cons x L ih =>
    show (drAll (drS s x) L).n = _
    rw [ih]
    show s.n + 1 + L.length = s.n + (L.length + 1)
    omega
theorem drAll_yg {s : PgS} (h : Yg s) : ∀ L : List Int, L.Nodup → (∀ x ∈ L, (s.H x).fate = 1) → Yg (drAll s L) := by
  intro L
  induction L generalizing s with
  | nil => intro _ _; exact h
  | cons x L ih =>
    intro hn hf
    refine ih (h.dropped (hf x (by simp))) (List.nodup_cons.1 hn).2 (fun y hy => ?_)
    show ((upd s.H x (chg0 3)) y).fate = 1
    rw [upd_other _ _ (fun e => (List.nodup_cons.1 hn).1 (by rw [← e]; exact hy))]
    exact hf y (List.mem_cons_of_mem _ hy)

section
variable {p pd pf b : Nat} {s : PgS} {F : List Nat} {w : World}

set_option maxRecDepth 1000000 in
set_option maxHeartbeats 4000000 in
theorem odropAll_any {v : Value} {L : List Int} (hy : Yg s) (hn : L.Nodup) (hf : ∀ x ∈ L, (s.H x).fate = 1) (hc : s.n + L.length < 1000000) (hv : ReadsO F w v (L.map (.int .i64))) (h : PgIs p pd pf b s F w) :
    Calls Tryz.prog 47 #[.pointer (some ⟨p, 0, none⟩), v] w fun e w' => e = .returned (.tuple #[]) ∧ ∃ F', PgIs p pd pf b (drAll s L) F' w' ∧ Goes F w F' w' := by
  obtain ⟨A, c, rfl⟩ := hv.form
  obtain ⟨N, hN⟩ : ∃ N, L.length = N := ⟨_, rfl⟩
  have HH := Lib.hid (And.intro hy (And.intro hn (And.intro hf (And.intro hc (And.intro hv (And.intro h hN))))))
  have hNb : N ≤ 1000000 := by omega
  rw [hN]
  clear hy hn hf hc hv h hN
  go_enter Tryz.func47, Tryz.ntmps47
  go_wp2_with fail
  go_loopg [8] N (fun g iv wr => ∃ (j : Nat), iv = .int .i64 j ∧ j + g = N ∧ ∃ F', PgIs p pd pf b (drAll s (L.take j)) F' wr ∧ Goes F w F' wr)
  case atStart => exact ⟨0, rfl, by omega, F, HH.out.2.2.2.2.2.1, Goes.refl _ _⟩
  case round =>
    obtain ⟨j, rfl, hjg, F1, hp, hg⟩ := hrel
    by_cases hlt : j < N
    · obtain ⟨hy, hn, hf, hc, hv, -, hN⟩ := HH.out
      have d1 : decide ((j : Int) < (N : Int)) = true := by simp; omega
      have hjl : j < L.length := by rw [hN]; exact hlt
      obtain ⟨g, off, c', hv', hck⟩ := (hv.goes hg).at j hjl
      simp only [Value.slice.injEq] at hv'
      obtain ⟨rfl, _, rfl⟩ := hv'
      have htk := take_snoc1 L j hjl
      have hyj := drAll_yg hy (L.take j) (hn.sublist (List.take_sublist _ _)) (fun x hx => hf x (List.mem_of_mem_take hx))
      have hnj : L[j] ∉ L.take j := fun hm => by
        have h2 := htk ▸ hn.sublist (List.take_sublist (j + 1) L)
        exact (List.nodup_append.1 h2).2.2 _ hm _ (by simp) rfl
      have hfj : ((drAll s (L.take j)).H L[j]).fate = 1 := by rw [drAll_at _ _ _ hnj]; exact hf _ (List.getElem_mem hjl)
      have hdr := gdrop_y L[j] hyj hfj (by rw [drAll_n, List.length_take]; omega) hp
      have hsn := drAll_snoc s (L.take j) L[j]
      rw [← htk] at hsn
      rw [← hsn] at hdr
      have HG := Lib.hid (And.intro hg hjg)
      have hj0 : (0 : Int) ≤ (j : Int) := by omega
      have hj1 : (j : Int) < (N : Int) := by omega
      generalize L[j] = y at *
      clear hy hn hf hc hv hN htk hyj hnj hfj hsn hg hp hjg
      go_wp2_with fail
      refine hdr.mono ?_
      rintro e w1 ⟨rfl, F2, hp2, hg2⟩
      have H2 := Lib.hid (And.intro hp2 (HG.out.1.trans hg2))
      clear hdr hp2 hg2
      go_wp2_with fail
      go_roundg (N - (j + 1))
      case measure => have := HG.out.2; omega
      case rel => exact ⟨j + 1, by go_num, by omega, F2, H2.out.1, H2.out.2⟩
    · obtain rfl : j = N := by omega
      have d1 : decide ((j : Int) < (j : Int)) = false := by simp
      have hfull : L.take j = L := List.take_of_length_le (by rw [HH.out.2.2.2.2.2.2]; exact Nat.le_refl _)
      rw [hfull] at hp
      have H2 := Lib.hid (And.intro hp hg)
      clear hlt hp hg hfull
      go_wp2_with fail
      go_end0
      exact ⟨rfl, F1, H2.out.1, H2.out.2⟩

set_option maxRecDepth 100000 in
set_option maxHeartbeats 1000000 in
theorem oget_any (first size : Int) (hf : IsInt first) (hz : IsInt size) (hy : Yg s) (h : PgIs p pd pf b s F w) :
    Calls Tryz.prog 24 #[.pointer (some ⟨p, 0, none⟩), .int .i64 first, .int .i64 size] w fun e w' => e = .returned (.tuple #[.string (wkB s first size), .int .i64 (wkE s first size)]) ∧ Below w.heap.size w w' := by
  have hw := owalk_any first size hf hz hy h
  generalize wkB s first size = B at *
  generalize wkE s first size = E at *
  clear h hy
  go_enter Tryz.func24, Tryz.ntmps24
  go_wp2_with fail
  refine hw.mono ?_
  rintro e w1 ⟨⟨v, rfl, hr⟩, hb⟩
  obtain ⟨A, c, hform⟩ := rform3 hr
  subst hform
  have HB := Lib.hid hb
  clear hw hr hb
  go_wp2_with fail
  go_ret2
  exact ⟨rfl, HB.out⟩

set_option maxRecDepth 100000 in
set_option maxHeartbeats 1000000 in
theorem opages_any (first size : Int) (hf : IsInt first) (hz : IsInt size) (hy : Yg s) (h : PgIs p pd pf b s F w) :
    Calls Tryz.prog 25 #[.pointer (some ⟨p, 0, none⟩), .int .i64 first, .int .i64 size] w fun e w' => (∃ v, e = .returned (.tuple #[v, .int .i64 (wkE s first size)]) ∧ NInts w' w.heap.size v (wkL s first size)) ∧ Below w.heap.size w w' := by
  have hw := owalk_any first size hf hz hy h
  generalize wkB s first size = B at *
  generalize wkE s first size = E at *
  generalize wkL s first size = L at *
  clear h hy
  go_enter Tryz.func25, Tryz.ntmps25
  go_wp2_with fail
  refine hw.mono ?_
  rintro e w1 ⟨⟨v, rfl, hr⟩, hb⟩
  obtain ⟨A, c, hform⟩ := rform3 hr
  subst hform
  have HB := Lib.hid (And.intro hr hb)
  obtain ⟨m, hm⟩ : ∃ m, L.length = m := ⟨_, rfl⟩
  have HM := Lib.hid hm
  rw [hm]
  clear hw hr hb hm
  go_wp2_with fail
  go_ret2
  exact ⟨⟨_, rfl, by rw [← HM.out]; exact HB.out.1⟩, HB.out.2⟩

end
end Go.Proofs.YtlignamakiiokaaGreatDoor
