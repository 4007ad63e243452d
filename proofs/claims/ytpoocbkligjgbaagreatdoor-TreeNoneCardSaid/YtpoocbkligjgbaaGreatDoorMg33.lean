/-
  The way down a tree to a key. over's Get, Pages and Drop; pages that are dropped one after the other.
-/
import Derived.Test.YtpoocbkligjgbaaGreatDoorMg32
import Derived.Test.YtpoocbkligjgbaaGreatDoorMg31
import Derived.Shelf.Strings.BuilderK
import Derived.Test.YtpoocbkligjgbaaGreatDoorMg13
namespace Go.Proofs.YtpoocbkligjgbaaGreatDoor
open Go.RowKit Go.Sort Go.Lib

section
variable {p pd pf b : Nat} {s : PgS} {F : List Nat} {w : World}

/-- What down tells. -/
def DownTo (s : PgS) (root : Int) (key : ByteArray) (w : World) (e : Ending) (w' : World) : Prop :=
  ((∃ vs A c, e = .returned (.tuple #[.agg #[vs, .int .i64 (dn s root key).page, .slice A (dn s root key).items.length c], .int .i64 0]) ∧ (dn s root key).e = 0 ∧ ((dn s root key).steps = [] → vs = .slice none 0 0) ∧ NSteps w' w.heap.size vs (dn s root key).steps ∧ w'.ownsRow w.heap.size 126 4 (.slice A (dn s root key).items.length c) (dn s root key).items.length (ilist (dn s root key).items)) ∨
    ((dn s root key).e ≠ 0 ∧ e = .returned (.tuple #[.agg #[.slice none 0 0, .int .i64 0, .slice none 0 0], .int .i64 (dn s root key).e]))) ∧ Below w.heap.size w w'
theorem dnGo_none {key : ByteArray} {f lv : Nat} {id : Int} {acc : List Stp} (h : ldN s id lv = none) : dnGo s key (f + 1) lv id acc = ⟨ldE s id lv, [], 0, []⟩ := by unfold dnGo; rw [h]
theorem dnGo_leaf {key : ByteArray} {f lv : Nat} {id : Int} {acc : List Stp} {n : Nd} (h : ldN s id lv = some n) (h2 : n.kids.length = 0) : dnGo s key (f + 1) lv id acc = ⟨0, acc, id, n.items⟩ := by unfold dnGo; rw [h]; exact if_pos h2
theorem dnGo_kids {key : ByteArray} {f lv : Nat} {id : Int} {acc : List Stp} {n : Nd} (h : ldN s id lv = some n) (h2 : n.kids.length ≠ 0) : dnGo s key (f + 1) lv id acc = dnGo s key f (lv + 1) (kidAt n.kids (BR.fnd n.kids key)).page (acc ++ [⟨id, n.kids, BR.fnd n.kids key⟩]) := by
  conv => lhs; unfold dnGo
  rw [h]
  exact if_neg h2

set_option maxRecDepth 100000 in
set_option maxHeartbeats 8000000 in
theorem down_any (root : Int) (key : ByteArray) (hid : IsInt root) (hy : Yg s) (h : PgIs p pd pf b s F w) :
    Calls Tryz.prog 63 #[.pointer (some ⟨p, 0, none⟩), .int .i64 root, .string key] w (DownTo s root key w) := by
  have hz := alloc_below (w := w) (.cells #[.slice none 0 0, .int .i64 0, .slice none 0 0] 122)
  have hN := Has.made w 122 #[.slice none 0 0, .int .i64 0, .slice none 0 0]
  have HB := Lib.hid (And.intro hz (And.intro hN (And.intro h hy)))
  clear hz hN h hy
  go_enter Tryz.func63, Tryz.ntmps63
  go_wp2_with fail
  obtain ⟨B, hB⟩ : ∃ B, w.heap.size = B := ⟨_, rfl⟩
  have HBB := Lib.hid hB
  rw [hB]
  clear hB
  go_loopg [8, 9, 10] 30 (fun g sv iv lv wr => ∃ (f l : Nat) (id : Int) (acc : List Stp), f = g ∧ iv = .int .i64 id ∧ lv = .int .i64 l ∧ f + l = 31 ∧ 1 ≤ l ∧ l ≤ 30 ∧ dnGo s key f l id acc = dn s root key ∧ IsInt id ∧ acc.length < l ∧
    (acc = [] → sv = .slice none 0 0) ∧ NSteps wr B sv acc ∧ Has wr B 122 #[.slice none 0 0, .int .i64 0, .slice none 0 0] ∧ Below B w wr)
  case atStart =>
    obtain ⟨hz, hN, -⟩ := HB.out
    rw [HBB.out] at hz hN
    exact ⟨30, 1, root, [], rfl, rfl, rfl, rfl, Nat.le_refl _, by omega, rfl, hid, by simp, fun _ => rfl, NSteps.nil _ _, hN, hz⟩
  case round =>
    obtain ⟨f0, l, id, acc, rfl, rfl, rfl, hgl, hl1, hl2, hdn, hidi, hal, hsn, hst, hhas, hbl⟩ := hrel
    have HSN := Lib.hid hsn
    clear hsn
    obtain ⟨f, rfl⟩ : ∃ f, f0 = f + 1 := ⟨f0 - 1, by omega⟩
    have hld := load_any id l hidi (by omega) HB.out.2.2.2 (HB.out.2.2.1.below (w' := wr) (by rw [HBB.out]; exact hbl))
    have HR := Lib.hid (And.intro hdn (And.intro hst (And.intro hhas (And.intro hbl (And.intro hal (And.intro hgl (And.intro hl1 (And.intro hl2 hidi))))))))
    clear hdn hst hhas hbl hal hgl hl1 hidi
    go_wp2_with fail
    refine hld.mono ?_
    rintro e w1 ⟨⟨A1, c1, A2, c2, n, rfl, hn, hr1, hr2⟩ | ⟨hn, rfl⟩, hb1⟩
    · obtain ⟨hdn, hst, hhas, hbl, hal, hgl, hl1, hl2, hidi⟩ := HR.out
      have hsz := hbl.size
      have hba := alloc_below (w := w1) (.cells #[.slice A1 n.items.length c1, .slice A2 n.kids.length c2] 197)
      have hM := Has.made w1 197 #[.slice A1 n.items.length c1, .slice A2 n.kids.length c2]
      have hb2 : Below wr.heap.size wr (w1.alloc (.cells #[.slice A1 n.items.length c1, .slice A2 n.kids.length c2] 197)) := hb1.trans (hba.mono hb1.size)
      have hil := isLeaf_any (.slice A1 n.items.length c1) A2 n.kids.length c2 (w1.alloc (.cells #[.slice A1 n.items.length c1, .slice A2 n.kids.length c2] 197))
      have hok := ldN_ok hn
      have hbw : Below B w (w1.alloc (.cells #[.slice A1 n.items.length c1, .slice A2 n.kids.length c2] 197)) := hbl.trans (hb2.mono (by have := hhas.inside; omega))
      have hr1' := row_below hr1 hba
      have hr2' := row_below hr2 hba
      have hst2 := hst.below hb2
      have hhas2 := hhas.below hb2 hhas.inside
      have hMi := hM.inside
      have H1 := Lib.hid (And.intro hn (And.intro hok (And.intro hr1' (And.intro hr2' (And.intro hst2 (And.intro hhas2 (And.intro hbw (And.intro hM hsz))))))))
      clear hn hok hr1' hr2' hst2 hhas2 hbw hM hb2 hba hb1 hr1 hr2 hld hst hhas hbl hal hgl hl1 hl2 hidi hdn
      obtain ⟨N1, hN1⟩ : ∃ N1, n.items.length = N1 := ⟨_, rfl⟩
      obtain ⟨N2, hN2⟩ : ∃ N2, n.kids.length = N2 := ⟨_, rfl⟩
      have HN := Lib.hid (And.intro hN1 hN2)
      rw [hN1, hN2] at hil hMi ⊢
      by_cases hleaf : N2 = 0
      · rw [decide_eq_true hleaf] at hil
        have HL := Lib.hid hleaf
        clear hleaf hN1 hN2
        go_wp2_with fail
        refine hil.mono ?_
        rintro e w2 ⟨rfl, hb2⟩
        rw [← HN.out.1, ← HN.out.2] at hb2
        obtain ⟨hn, hok, hr1, hr2, hst2, hhas2, hbw, hM, hsz⟩ := H1.out
        obtain ⟨As, cs, hform⟩ := hst2.form
        subst hform
        have hhas3 := hhas2.below hb2 hhas2.inside
        have hM3 := hM.below hb2 hM.inside
        rw [HN.out.1, HN.out.2] at hM3
        have y0 := hhas3.free 0
        have y1 := hhas3.free 1
        have y2 := hhas3.free 2
        have z0 := hhas3.cell 0
        have z1 := hhas3.cell 1
        have z2 := hhas3.cell 2
        have k0 := hM3.cell 0
        simp at z0 z1 z2 k0
        have H2 := Lib.hid (And.intro hn (And.intro (row_below hr1 hb2) (And.intro (hst2.below hb2) (And.intro hhas3 (And.intro (hbw.trans (hb2.mono (by have := hhas2.inside; omega))) hsz)))))
        clear hn hok hr1 hr2 hst2 hhas2 hbw hM hhas3 hM3 hb2 hil hMi
        go_wp2_with fail
        obtain ⟨hn, hr1, hst3, hhas3, hbw, hsz⟩ := H2.out
        have hN1 := HN.out.1
        subst hN1
        have hP := hhas3.put3 (.slice As acc.length cs) (.int .i64 id) (.slice A1 n.items.length c1)
        have e0 := hP.cell 0
        have e1 := hP.cell 1
        have e2 := hP.cell 2
        simp at e0 e1 e2
        have hd : dn s root key = ⟨0, acc, id, n.items⟩ := HR.out.1.symm.trans (dnGo_leaf hn (by rw [HN.out.2]; exact HL.out))
        have hBw : w.heap.size = B := HBB.out
        refine bodyPost_ret (v := .tuple #[.agg #[.slice As acc.length cs, .int .i64 id, .slice A1 n.items.length c1], .int .i64 0]) (by simp [results, Tryz.results63, go_sem, e0, e1, e2]) rfl ?_
        unfold DownTo
        rw [hd, hBw]
        refine ⟨.inl ⟨_, A1, c1, rfl, rfl, HSN.out, ?_, row_put3 (row_lower hr1 (by have := HR.out.2.2.1.inside; omega)) hhas3 (by decide)⟩, below_put3 hbw (Nat.le_refl _) _ _ _⟩
        obtain ⟨P, p1, p2, p3⟩ := hst3
        exact ⟨P, p1, row_put3 p2 hhas3 (by decide), fun q hq => row_put3 (p3 q hq) hhas3 (by decide)⟩
      · rw [decide_eq_false hleaf] at hil
        have HL := Lib.hid hleaf
        clear hleaf hN1 hN2
        go_wp2_with fail
        refine hil.mono ?_
        rintro e w2 ⟨rfl, hb2⟩
        rw [← HN.out.1, ← HN.out.2] at hb2
        obtain ⟨hn, hok, hr1, hr2, hst2, hhas2, hbw, hM, hsz⟩ := H1.out
        have hkne : n.kids ≠ [] := fun e => HL.out (by rw [← HN.out.2, e]; rfl)
        obtain ⟨hbok, hbz, -⟩ := hok.1.branch hkne
        have hk3 := row_below hr2 hb2
        have hri := (BR.row_readsIt (row_lower hk3 (base' := 0) (Nat.zero_le _)))
        have hfd := BR.find_any (.slice A2 n.kids.length c2) n.kids key w2 hri (hbok.2.2.drop 1) (by have := br_few hbz; omega)
        obtain ⟨pl, hpl⟩ : ∃ pl, BR.fnd n.kids key = pl := ⟨_, rfl⟩
        rw [hpl, HN.out.2] at hfd
        have hM3 := hM.below hb2 hM.inside
        have k1 := hM3.cell 1
        rw [HN.out.2] at k1
        simp at k1
        have hlt : pl < n.kids.length := by rw [← hpl]; exact fnd_lt (List.length_pos_iff.2 hkne) key
        have H2 := Lib.hid (And.intro hn (And.intro hk3 (And.intro (hst2.below hb2) (And.intro (hhas2.below hb2 hhas2.inside) (And.intro (hbw.trans (hb2.mono (by have := hhas2.inside; omega))) (And.intro hsz (And.intro hM3 (And.intro hpl (And.intro hlt hok)))))))))
        clear hn hok hr1 hr2 hst2 hhas2 hbw hM hM3 hb2 hil hMi hkne hbok hbz hk3 hri hpl hlt hsz
        go_wp2_with fail
        refine hfd.mono ?_
        rintro e w3 ⟨rfl, hb3⟩
        obtain ⟨hn, hk3, hst2, hhas2, hbw, hsz, hM3, hpl, hlt, hok⟩ := H2.out
        have hst3 := hst2.below hb3
        obtain ⟨As, cs, hform⟩ := hst3.form
        subst hform
        have hck : CRow w3 (.slice A2 n.kids.length c2) n.kids := row_lower (row_below hk3 hb3) (Nat.zero_le _)
        obtain ⟨gk, hgk⟩ : ∃ gk, A2 = some ⟨gk, 0, none⟩ := by
          rcases hck.2 with ⟨h0, h1⟩ | ⟨g, cap, cur, h0, _⟩
          · exact absurd h1 (by omega)
          · simp only [Value.slice.injEq] at h0
            exact ⟨g, h0.1⟩
        subst hgk
        have hM4 := hM3.below hb3 hM3.inside
        rw [HN.out.1, HN.out.2] at hM4
        have k1 := hM4.cell 1
        simp at k1
        have hB3 : B ≤ w3.heap.size := by have := hhas2.inside; have := hb3.size; omega
        have hal : acc.length ≤ 1000 := by have := HR.out.2.2.2.2.1; omega
        have hltN : pl < N2 := by have := HN.out.2; omega
        have hp0 : (0 : Int) ≤ (pl : Int) := by omega
        have hp1 : (pl : Int) < (N2 : Int) := by omega
        have hpg : (kidAt n.kids pl).page = n.kids[pl].page := by unfold kidAt; simp [List.getD, List.getElem?_eq_getElem hlt]
        obtain ⟨pg, hpgv⟩ : ∃ pg, n.kids[pl].page = pg := ⟨_, rfl⟩
        have hpgi : IsInt pg := by
          obtain ⟨hbok, _⟩ := hok.1.branch (fun e => by rw [e] at hlt; exact absurd hlt (by simp))
          have := BR.right_cases (hbok.2.1 _ (List.getElem_mem hlt))
          rw [← hpgv]
          unfold IsInt
          omega
        have hcell : ∀ W : World, CRow W (.slice (some ⟨gk, 0, none⟩) N2 c2) n.kids → W.cell? ⟨gk, pl * 2 + 1, none⟩ = some (.int .i64 pg) := fun W hW => by
          rw [← HN.out.2] at hW
          obtain ⟨A, c, hv, _, _, _, hc⟩ := hW.reads
          obtain ⟨b', off, hA, _, hit⟩ := hc (by omega)
          simp only [Value.slice.injEq] at hv
          rw [← hv.1] at hA
          simp at hA
          obtain ⟨rfl, rfl⟩ := hA
          have := (hit pl hlt).2
          rw [hpgv] at this
          simpa using this
        have H3 := Lib.hid (And.intro hn (And.intro (hhas2.below hb3 hhas2.inside) (And.intro (hbw.trans (hb3.mono (by have := hhas2.inside; omega))) (And.intro hsz (And.intro hpl (And.intro hlt (And.intro hok (And.intro (hpg.trans hpgv) hpgi))))))))
        rw [HN.out.2] at hck
        have HC := Lib.hid hcell
        clear hn hk3 hst2 hhas2 hbw hsz hM3 hpl hlt hok hb3 hfd hpg hpgv hpgi hcell
        go_wp2_with (at_builtin; refine append_step rfl _ _ rfl B w3 (.slice As acc.length cs) acc rfl hst3 id (.slice (some ⟨gk, 0, none⟩) N2 c2) n.kids hck pl rfl hal hB3 ?_; intro v4 w4 hst4 hck4 hha4 hb4; have k4 := (hha4 _ _ _ hM4 (by decide)).cell 1; simp at k4; have p4 := HC.out w4 hck4; have H4 := Lib.hid (And.intro hst4 (And.intro hha4 hb4)); clear hst4 hck4 hha4 hb4)
        go_roundg f
        case measure => omega
        case rel =>
          obtain ⟨hst4, hha4, hb4⟩ := H4.out
          obtain ⟨hn, hhas3, hbw, hsz, hpl, hlt, hok, hpg, hpgi⟩ := H3.out
          obtain ⟨hdn, -, -, -, hal, hgl, hl1, hl2, -⟩ := HR.out
          have hmay := hok.2.1
          unfold may at hmay
          rw [if_neg (by omega)] at hmay
          refine ⟨f, l + 1, pg, acc ++ [⟨id, n.kids, pl⟩], rfl, rfl, by go_num, by omega, by omega, by omega, ?_, hpgi, by simp; omega, fun h => absurd h (by simp), hst4, hha4 _ _ _ hhas3 (by decide), hbw.trans hb4⟩
          rw [← hdn, dnGo_kids hn (by omega), hpl, hpg]
    · obtain ⟨hdn, hst, hhas, hbl, hal, hgl, hl1, hl2, hidi⟩ := HR.out
      have hz2 := hhas.below hb1 hhas.inside
      have hba := alloc_below (w := w1) (.cells #[.slice none 0 0, .slice none 0 0] 197)
      have hz3 := hz2.alloc (.cells #[.slice none 0 0, .slice none 0 0] 197)
      have y0 := hz3.free 0
      have y1 := hz3.free 1
      have y2 := hz3.free 2
      have z0 := hz3.cell 0
      have z1 := hz3.cell 1
      have z2 := hz3.cell 2
      simp at z0 z1 z2
      have hne := ldN_none hn
      obtain ⟨r, hr⟩ : ∃ r, ldE s id l = r := ⟨_, rfl⟩
      rw [hr] at hne ⊢
      have g4 : (r != 0) = true := by simpa using hne
      have H1 := Lib.hid (And.intro hn (And.intro hz3 (And.intro (hbl.trans ((hb1.trans (hba.mono hb1.size)).mono (by have := hhas.inside; omega))) (And.intro hr hne))))
      clear hdn hst hhas hbl hal hgl hl1 hl2 hidi hz2 hz3 hba hn hb1 hr hne hld
      go_wp2_with fail
      obtain ⟨hn, hz3, hbw, hr, hne⟩ := H1.out
      have hP := hz3.put3 (.slice none 0 0) (.int .i64 0) (.slice none 0 0)
      have e0 := hP.cell 0
      have e1 := hP.cell 1
      have e2 := hP.cell 2
      simp at e0 e1 e2
      have hd : dn s root key = ⟨r, [], 0, []⟩ := by rw [← hr]; exact HR.out.1.symm.trans (dnGo_none hn)
      have hBw : w.heap.size = B := HBB.out
      refine bodyPost_ret (v := .tuple #[.agg #[.slice none 0 0, .int .i64 0, .slice none 0 0], .int .i64 r]) (by simp [results, Tryz.results63, go_sem, e0, e1, e2]) rfl ?_
      unfold DownTo
      rw [hd, hBw]
      exact ⟨.inr ⟨hne, rfl⟩, below_put3 hbw (Nat.le_refl _) _ _ _⟩
end
end Go.Proofs.YtpoocbkligjgbaaGreatDoor

namespace Go.Proofs.YtpoocbkligjgbaaGreatDoor
open Go.RowKit Go.Sort Go.Lib

def drAll (s : PgS) (L : List Int) : PgS := L.foldl drS s
theorem drAll_snoc (s : PgS) (L : List Int) (x : Int) : drAll s (L ++ [x]) = drS (drAll s L) x := by simp [drAll]
theorem drAll_at (s : PgS) : ∀ (L : List Int) (y : Int), y ∉ L → (drAll s L).H y = s.H y := by
  intro L
  induction L generalizing s with
  | nil => intro y _; rfl
  | cons x L ih =>
    intro y hy
    show (drAll (drS s x) L).H y = _
    rw [ih (drS s x) y (fun h => hy (List.mem_cons_of_mem _ h))]
    show (upd s.H x (chg0 3)) y = _
    exact upd_other _ _ (fun e => hy (by rw [e]; simp))
theorem drAll_n (s : PgS) : ∀ L : List Int, (drAll s L).n = s.n + L.length := by
  intro L
  induction L generalizing s with
  | nil => rfl
  | cons x L ih =>
    show (drAll (drS s x) L).n = _
    rw [ih]
    show s.n + 1 + L.length = s.n + (L.length + 1)
    omega
theorem drAll_yg {s : PgS} (h : Yg s) : ∀ L : List Int, L.Nodup → (∀ x ∈ L, (s.H x).fate = 1) → Yg (drAll s L) := by
  intro L
  induction L generalizing s with
  | nil => intro _ _; exact h
  | cons x L ih =>
    intro hn hf
    refine ih (h.dropped (hf x (by simp))) (List.nodup_cons.1 hn).2 (fun y hy => ?_)
    show ((upd s.H x (chg0 3)) y).fate = 1
    rw [upd_other _ _ (fun e => (List.nodup_cons.1 hn).1 (by rw [← e]; exact hy))]
    exact hf y (List.mem_cons_of_mem _ hy)

section
variable {p pd pf b : Nat} {s : PgS} {F : List Nat} {w : World}




end
end Go.Proofs.YtpoocbkligjgbaaGreatDoor
