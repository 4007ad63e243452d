/-
  The document's own free pages: Give.
-/
import Derived.Test.YtjimjemogbphaaaGreatMg21
import Derived.Test.YtjimjemogbphaaaGreatMg14
namespace Go.Proofs.YtjimjemogbphaaaGreat
open Go.RowKit

theorem Tryz.infoWait : (Tryz.prog.info? 90).map (fun i => (i.zero, i.size, i.bytes)) = some (some (.agg #[.int .i64 0, .int .i64 0]), 2, 16) := by kernel_rfl
theorem wcells_one (u : Int × Int) : ∀ v ∈ wcells u, v.oneCell' = true := by
  intro v hv
  simp only [wcells, List.mem_cons, List.not_mem_nil, or_false] at hv
  rcases hv with rfl | rfl <;> rfl
theorem wlist_one (W : List (Int × Int)) : ∀ v ∈ wlist W, v.oneCell' = true := by
  intro v hv
  obtain ⟨u, _, hu⟩ := List.mem_flatMap.1 hv
  exact wcells_one u v hu

section
variable {w w' : World} {p : Nat} {vL vW vP u u' : Value} {L : List Int} {W W' : List (Int × Int)} {P : List Int}

/-- Another list of those that wait. -/
theorem RFr.setW (h : RFr w p vL vW vP L W P) (hb : Below w.heap.size w w') (hr : w'.ownsRow w.heap.size 90 2 u W'.length (wlist W')) :
    RFr (w'.setCell ⟨p, 1, none⟩ u) p vL u vP L W' P ∧ Goes (rffoot p vL vW vP) w (rffoot p vL u vP) (w'.setCell ⟨p, 1, none⟩ u) := by
  have h' := h.below hb
  have hlt := h.lt
  have hu : ∀ g, u.ownBlock = some g → w.heap.size ≤ g := fun g hg => (hr.lt g hg).1
  have hne : ∀ g ∈ rfr vL u vP, g ≠ p := fun g hg => by
    rcases mem_rfr.1 hg with h1 | h1 | h1
    · exact h.ne g (mem_rfr.2 (.inl h1))
    · have := hlt p (by simp [rffoot])
      have := hu g h1
      omega
    · exact h.ne g (mem_rfr.2 (.inr (.inr h1)))
  have hk : Kept [p] w' (w'.setCell ⟨p, 1, none⟩ u) := (Kept.refl _ _).setCell (p := ⟨p, 1, none⟩) (by simp) _
  refine ⟨⟨by simpa using h'.has.put 1 u, h'.l.kept hk (fun g hg hin => hne g (mem_rfr.2 (.inl hg)) (by simpa using hin)), row_kept (row_base0 hr) hk (fun g hg hin => hne g (mem_rfr.2 (.inr (.inl hg))) (by simpa using hin)), h'.pi.kept hk (fun g hg hin => hne g (mem_rfr.2 (.inr (.inr hg))) (by simpa using hin)), hne⟩, ?_, ?_⟩
  · exact (Kept.of_below hb).setCell (p := ⟨p, 1, none⟩) (.inl (by simp [rffoot])) _
  · intro g hg
    rcases List.mem_cons.1 hg with rfl | hg
    · exact .inl (by simp [rffoot])
    · rcases mem_rfr.1 hg with h1 | h1 | h1
      · exact .inl (List.mem_cons_of_mem _ (mem_rfr.2 (.inl h1)))
      · exact .inr (hu g h1)
      · exact .inl (List.mem_cons_of_mem _ (mem_rfr.2 (.inr (.inr h1))))
/-- The list of those that wait grows. -/
theorem RFr.growW (h : RFr w p vL u vP L W P) (hd : ∀ g, u.ownBlock = some g → vL.ownBlock ≠ some g ∧ vP.ownBlock ≠ some g) (hg : Grown w u u' w') (hr : w'.ownsRow 0 90 2 u' W'.length (wlist W')) :
    RFr (w'.setCell ⟨p, 1, none⟩ u') p vL u' vP L W' P ∧ Goes (rffoot p vL u vP) w (rffoot p vL u' vP) (w'.setCell ⟨p, 1, none⟩ u') ∧ w'.cell? ⟨p, 1, none⟩ = some u ∧ w'.frozen? ⟨p, 1, none⟩ = false := by
  have hlt := h.lt
  have hu : ∀ g, u'.ownBlock = some g → u.ownBlock = some g ∨ w.heap.size ≤ g := fun g hg' => (hg.1.2 g (by simp [hg'])).imp (fun h => by simpa using h) id
  have hk0 := hg.1.1
  have hup : ∀ g ∈ u.ownBlock.toList, g ≠ p := fun g hin => h.ne g (mem_rfr.2 (.inr (.inl (by simpa using hin))))
  have hp : Has w' p 31 #[vL, u, vP] := h.has.kept hk0 (fun hin => hup p hin rfl)
  have hne : ∀ g ∈ rfr vL u' vP, g ≠ p := fun g hg => by
    rcases mem_rfr.1 hg with h1 | h1 | h1
    · exact h.ne g (mem_rfr.2 (.inl h1))
    · rcases hu g h1 with h2 | h2
      · exact h.ne g (mem_rfr.2 (.inr (.inl h2)))
      · have := hlt p (by simp [rffoot])
        omega
    · exact h.ne g (mem_rfr.2 (.inr (.inr h1)))
  have hk : Kept [p] w' (w'.setCell ⟨p, 1, none⟩ u') := (Kept.refl _ _).setCell (p := ⟨p, 1, none⟩) (by simp) _
  refine ⟨⟨by simpa using hp.put 1 u', (h.l.kept hk0 (fun g hg hin => (hd g (by simpa using hin)).1 hg)).kept hk (fun g hg hin => hne g (mem_rfr.2 (.inl hg)) (by simpa using hin)), row_kept hr hk (fun g hg hin => hne g (mem_rfr.2 (.inr (.inl hg))) (by simpa using hin)), (h.pi.kept hk0 (fun g hg hin => (hd g (by simpa using hin)).2 hg)).kept hk (fun g hg hin => hne g (mem_rfr.2 (.inr (.inr hg))) (by simpa using hin)), hne⟩, ⟨?_, ?_⟩, hp.cell 1, hp.free 1⟩
  · exact (hk0.mono (fun g hin => .inl (List.mem_cons_of_mem _ (mem_rfr.2 (.inr (.inl (by simpa using hin))))))).setCell (p := ⟨p, 1, none⟩) (.inl (by simp [rffoot])) _
  · intro g hg
    rcases List.mem_cons.1 hg with rfl | hg
    · exact .inl (by simp [rffoot])
    · rcases mem_rfr.1 hg with h1 | h1 | h1
      · exact .inl (List.mem_cons_of_mem _ (mem_rfr.2 (.inl h1)))
      · exact (hu g h1).imp (fun h2 => List.mem_cons_of_mem _ (mem_rfr.2 (.inr (.inl h2)))) id
      · exact .inl (List.mem_cons_of_mem _ (mem_rfr.2 (.inr (.inr h1))))

set_option maxRecDepth 100000 in
set_option maxHeartbeats 2000000 in
theorem rfGive_any {v : Value} {xs : List Int} (t : Int) (h : RFr w p vL vW vP L W P) (hv : ReadsO (rffoot p vL vW vP) w v (xs.map (.int .i64))) (hl : xs.length + W.length ≤ 100000) :
    Calls Tryz.prog 13 #[.pointer (some ⟨p, 0, none⟩), .int .i64 t, v] w fun e w' => e = .returned (.tuple #[]) ∧ REnd w p vL vW vP L (W ++ xs.map (fun x => (t, x))) P w' := by
  obtain ⟨A, c, rfl, hr⟩ := hv
  rw [List.length_map] at *
  obtain ⟨n, hn⟩ : ∃ n, xs.length = n := ⟨_, rfl⟩
  obtain ⟨N, hN⟩ : ∃ n, W.length = n := ⟨_, rfl⟩
  have HR := Lib.hid (show ReadsO (rffoot p vL vW vP) w (.slice A n c) (xs.map (.int .i64)) from ⟨A, c, by rw [List.length_map, hn], by rw [List.length_map]; exact hr⟩)
  have HN := Lib.hid (And.intro hn hN)
  have H := Lib.hid h
  rw [hn]
  have hnb : n + N ≤ 100000 := by omega
  have cw : w.cell? ⟨p, 1, none⟩ = some vW := h.has.cell 1
  have hwt := h.wt
  rw [hN] at hwt
  obtain ⟨A7, c7, hv7⟩ := row_form hwt
  have HW := Lib.hid hwt
  subst hv7
  clear h hr hl hn hN hwt
  go_enter Tryz.func13, Tryz.ntmps13
  go_wp2_with (at_builtin; refine BD.append_copy_row rfl _ _ 29 90 (.agg #[.int .i64 0, .int .i64 0]) 2 16 Tryz.underlying29 Tryz.infoWait rfl (by decide) (by decide) rfl w.heap.size w rfl 0 (.slice A7 N c7) N rfl _ HW.out (wlist_one W) (by omega) (Nat.le_refl _) ?_; intro v1 w1 hown hb1; obtain ⟨A5, c5, rfl⟩ := row_form hown; have HZ := Lib.hid (And.intro (H.out.setW (W' := W) hb1 (by rw [HN.out.2]; exact hown)) (fun g hg => (hown.lt g hg).1)); have hf1 := (H.out.below hb1).has.free 1; have hf2 := (H.out.below hb1).has.cell 1; simp at hf2; clear hown hb1)
  go_loopg [6] n (fun g iv wr => ∃ (j : Nat), iv = .int .i64 j ∧ j + g = n ∧ ∃ q, RFr wr p vL q vP L (W ++ (xs.take j).map (fun x => (t, x))) P ∧ Goes (rffoot p vL (.slice A7 N c7) vP) w (rffoot p vL q vP) wr ∧ ∀ g, q.ownBlock = some g → w.heap.size ≤ g)
  case atStart => exact ⟨0, rfl, by omega, _, by simpa using HZ.out.1.1, HZ.out.1.2, HZ.out.2⟩
  case round =>
    clear HZ hf1 hf2 w1
    obtain ⟨j, rfl, hjg, q, hf, hgo, hqn⟩ := hrel
    by_cases hlt : j < n
    · have hlt' : j < xs.length := by rw [HN.out.1]; exact hlt
      have hro := HR.out.goes hgo
      obtain ⟨A', c', hA, hro⟩ := hro
      obtain ⟨b, off, hAb, hbl, hbG, hcell⟩ := hro (by rw [List.length_map]; omega)
      simp only [Value.slice.injEq] at hA
      obtain ⟨rfl, hA2, rfl⟩ := hA
      subst hAb
      have hck := hcell j (.int .i64 xs[j]) (by simp [hlt'])
      have hwt := hf.wt
      have hlen : (W ++ (xs.take j).map (fun x => (t, x))).length = N + j := by
        rw [List.length_append, HN.out.2, List.length_map, List.length_take, HN.out.1]
        omega
      rw [hlen] at hwt
      obtain ⟨A6, c6, hq6⟩ := row_form hwt
      have hra := (World.ownsRow.alloc hwt (.cells #[.int .i64 t, .int .i64 xs[j]] 90)).drew
      have hal : Below wr.heap.size wr (wr.alloc (.cells #[.int .i64 t, .int .i64 xs[j]] 90)).drew := ⟨rfl, rfl, rfl, by show _ ≤ (wr.alloc _).heap.size; simp, fun k hk => Below.heap_alloc wr _ k hk⟩
      have e1 : W ++ (xs.take (j + 1)).map (fun x => (t, x)) = (W ++ (xs.take j).map (fun x => (t, x))) ++ [(t, xs[j])] := by rw [List.take_succ_eq_append_getElem hlt', List.map_append, List.append_assoc]; rfl
      have hn1 : Has (wr.alloc (.cells #[.int .i64 t, .int .i64 xs[j]] 90)).drew wr.heap.size 90 #[.int .i64 t, .int .i64 xs[j]] := Has.made wr _ _
      have hfal := hf.below hal
      have hck2 : (wr.alloc (.cells #[.int .i64 t, .int .i64 xs[j]] 90)).drew.cell? ⟨b, off + j, none⟩ = some (.int .i64 xs[j]) := (hal.cell (p := ⟨b, off + j, none⟩) hbl).trans hck
      have HE := Lib.hid (And.intro e1 (And.intro hf (And.intro hgo (And.intro hqn (And.intro hal (And.intro hfal (And.intro hck2 (And.intro hbl hbG))))))))
      have c0 : wr.cell? ⟨p, 1, none⟩ = some q := hf.has.cell 1
      have c01 : (wr.alloc (.cells #[.int .i64 t, .int .i64 xs[j]] 90)).drew.cell? ⟨p, 1, none⟩ = some q := hfal.has.cell 1
      obtain ⟨i0, hi0, hzz0, hzz1, hzz2⟩ := info_parts Tryz.infoWait
      have HI := Lib.hid (And.intro hi0 (And.intro hzz0 (And.intro hzz1 hzz2)))
      have HRA := Lib.hid (And.intro hra hn1)
      generalize hx : xs[j] = x at *
      have k0 : (0 : Int) ≤ j := by omega
      have k1 : (j : Int) < n := by omega
      subst hq6
      have hS : wr.drew.cell? ⟨p, 1, none⟩ = some (.slice A6 (N + j) c6) ∧ wr.drew.cell? ⟨b, off + j, none⟩ = some (.int .i64 x) := ⟨c0, hck⟩
      have hS1 : (wr.alloc (.cells #[.int .i64 t, .int .i64 x] 90)).drew.cell? ⟨p, 1, none⟩ = some (.slice A6 (N + j) c6) ∧ (wr.alloc (.cells #[.int .i64 t, .int .i64 x] 90)).drew.cell? ⟨b, off + j, none⟩ = some (.int .i64 x) := ⟨c01, hck2⟩
      clear hgo hf hqn e1 hcell hbl hbG hA2 hro hx hck c0 c01 hck2 hwt hlen hra hal hfal hn1 hi0 hzz0 hzz1 hzz2
      go_wp2_with fail
      refine wp_region_tills (fun w' => w'.cell? ⟨p, 1, none⟩ = some (.slice A6 (N + j) c6) ∧ w'.cell? ⟨b, off + j, none⟩ = some (.int .i64 x)) 13 (by kernel_rfl) ?_
      refine till_takeAt 21 (i := 0) (v := .pointer (some ⟨p, 0, none⟩)) rfl rfl (by kernel_rfl) (by kernel_rfl) (by kernel_rfl) (by kernel_rfl) (by kernel_rfl) (fun _ _ _ h => h) (Or.inl ⟨by rfl, fun w' hw' => by obtain ⟨q1, q2⟩ := hw'; go_simp⟩) hS ?_
      simp only [List.setIfInBounds_toArray, List.set_cons_zero, List.set_cons_succ]
      refine till_takeAt 22 (i := 1) (v := .pointer (some ⟨p, 0, none⟩)) rfl rfl (by kernel_rfl) (by kernel_rfl) (by kernel_rfl) (by kernel_rfl) (by kernel_rfl) (fun _ _ _ h => h) (Or.inl ⟨by rfl, fun w' hw' => by obtain ⟨q1, q2⟩ := hw'; go_simp⟩) hS ?_
      simp only [List.setIfInBounds_toArray, List.set_cons_zero, List.set_cons_succ]
      refine till_takeAt 23 (i := 2) (v := .pointer (some ⟨p, 0, none⟩)) rfl rfl (by kernel_rfl) (by kernel_rfl) (by kernel_rfl) (by kernel_rfl) (by kernel_rfl) (fun _ _ _ h => h) (Or.inl ⟨by rfl, fun w' hw' => by obtain ⟨q1, q2⟩ := hw'; go_simp⟩) hS ?_
      simp only [List.setIfInBounds_toArray, List.set_cons_zero, List.set_cons_succ]
      refine till_takeAt 24 (i := 3) (v := .pointer (some ⟨p, 1, none⟩)) rfl rfl (by kernel_rfl) (by kernel_rfl) (by kernel_rfl) (by kernel_rfl) (by kernel_rfl) (fun _ _ _ h => h) (Or.inl ⟨by rfl, fun w' hw' => by obtain ⟨q1, q2⟩ := hw'; go_simp⟩) hS ?_
      simp only [List.setIfInBounds_toArray, List.set_cons_zero, List.set_cons_succ]
      refine till_takeAt 25 (i := 4) (v := .slice A6 (N + j) c6) rfl rfl (by kernel_rfl) (by kernel_rfl) (by kernel_rfl) (by kernel_rfl) (by kernel_rfl) (fun _ _ _ h => h) (Or.inl ⟨by rfl, fun w' hw' => by obtain ⟨q1, q2⟩ := hw'; go_simp⟩) hS ?_
      simp only [List.setIfInBounds_toArray, List.set_cons_zero, List.set_cons_succ]
      refine till_takeAt 26 (i := 5) (v := .int .i64 t) rfl rfl (by kernel_rfl) (by kernel_rfl) (by kernel_rfl) (by kernel_rfl) (by kernel_rfl) (fun _ _ _ h => h) (Or.inl ⟨by rfl, fun w' hw' => by obtain ⟨q1, q2⟩ := hw'; go_simp⟩) hS ?_
      simp only [List.setIfInBounds_toArray, List.set_cons_zero, List.set_cons_succ]
      refine till_takeAt 27 (i := 6) (v := .slice (some ⟨b, off, none⟩) n c) rfl rfl (by kernel_rfl) (by kernel_rfl) (by kernel_rfl) (by kernel_rfl) (by kernel_rfl) (fun _ _ _ h => h) (Or.inl ⟨by rfl, fun w' hw' => by obtain ⟨q1, q2⟩ := hw'; go_simp⟩) hS ?_
      simp only [List.setIfInBounds_toArray, List.set_cons_zero, List.set_cons_succ]
      refine till_takeAt 28 (i := 7) (v := .int .i64 j) rfl rfl (by kernel_rfl) (by kernel_rfl) (by kernel_rfl) (by kernel_rfl) (by kernel_rfl) (fun _ _ _ h => h) (Or.inl ⟨by rfl, fun w' hw' => by obtain ⟨q1, q2⟩ := hw'; go_simp⟩) hS ?_
      simp only [List.setIfInBounds_toArray, List.set_cons_zero, List.set_cons_succ]
      refine till_takeAt 29 (i := 8) (v := .pointer (some ⟨b, off + j, none⟩)) rfl rfl (by kernel_rfl) (by kernel_rfl) (by kernel_rfl) (by kernel_rfl) (by kernel_rfl) (fun _ _ _ h => h) (Or.inl ⟨by rfl, fun w' hw' => by obtain ⟨q1, q2⟩ := hw'; go_simp⟩) hS ?_
      simp only [List.setIfInBounds_toArray, List.set_cons_zero, List.set_cons_succ]
      refine till_takeAt 30 (i := 9) (v := .int .i64 x) rfl rfl (by kernel_rfl) (by kernel_rfl) (by kernel_rfl) (by kernel_rfl) (by kernel_rfl) (fun _ _ _ h => h) (Or.inl ⟨by rfl, fun w' hw' => by obtain ⟨q1, q2⟩ := hw'; go_simp⟩) hS ?_
      simp only [List.setIfInBounds_toArray, List.set_cons_zero, List.set_cons_succ]
      refine till_takeAt 31 (i := 10) (v := .agg #[.int .i64 t, .int .i64 x]) rfl rfl (by kernel_rfl) (by kernel_rfl) (by kernel_rfl) (by kernel_rfl) (by kernel_rfl) (fun _ _ _ h => h) (Or.inl ⟨by rfl, fun w' hw' => by obtain ⟨q1, q2⟩ := hw'; go_simp⟩) hS ?_
      simp only [List.setIfInBounds_toArray, List.set_cons_zero, List.set_cons_succ]
      clear hS
      refine till_one (i := 11) (by kernel_rfl) rfl rfl (fun K hK => ?_)
      go_simp
      refine hK _ _ ⟨fun _ => hS1, ?_⟩
      clear hK K hS1
      obtain ⟨hra, hn1⟩ := HRA.out
      obtain ⟨hi0, hzz0, hzz1, hzz2⟩ := HI.out
      have hnews : ∀ q u, ([.int .i64 t, .int .i64 x] : List Value)[q]? = some u → (wr.alloc (.cells #[.int .i64 t, .int .i64 x] 90)).drew.cell? ((⟨wr.heap.size, 0, none⟩ : Addr).add q) = some u := by
        intro q u hu
        rw [Go.WideShapes.add_plain, Nat.zero_add, hn1.cell q]
        simpa using hu
      refine till_one (i := 12) (by kernel_rfl) rfl rfl (fun K hK => ?_)
      refine wp_append_keeps (.tmp 25) (.tmp 32) 29 90 i0 _ 2 16 Tryz.underlying29 hi0 hzz0 hzz1 hzz2 rfl (by decide) rfl _ (.slice A6 (N + j) c6) (N + j) _ rfl hra ⟨wr.heap.size, 0, none⟩ 1 1 rfl [.int .i64 t, .int .i64 x] rfl hnews (wcells_one (t, x)) (by omega) (by unfold maxLen; omega) (by omega) ?_
      intro q2 w2 hown2 hgn2
      obtain ⟨e1, hf, hgo, hqn, hal, hfal, hck2, hbl, hbG⟩ := HE.out
      have hd : ∀ g, (Value.slice A6 (N + j) c6).ownBlock = some g → vL.ownBlock ≠ some g ∧ vP.ownBlock ≠ some g := fun g hg => by
        have h1 := hqn g hg
        exact ⟨fun h2 => by have := H.out.l.lt g h2; omega, fun h2 => by have := H.out.pi.lt g h2; omega⟩
      have hlen2 : ((W ++ (xs.take j).map (fun x => (t, x))) ++ [(t, x)]).length = N + j + 1 := by
        rw [List.length_append, List.length_append, HN.out.2, List.length_map, List.length_take, HN.out.1]
        simp
        omega
      obtain ⟨g1, g2, g3, g4⟩ := hfal.growW (W' := (W ++ (xs.take j).map (fun x => (t, x))) ++ [(t, x)]) hd hgn2 (by rw [hlen2, wlist_append]; exact hown2)
      have hgo2 : Goes (rffoot p vL (.slice A7 N c7) vP) w (rffoot p vL q2 vP) (w2.setCell ⟨p, 1, none⟩ q2) := hgo.trans (Goes.trans ⟨Kept.of_below hal, fun k hk => .inl hk⟩ g2)
      have hq2n : ∀ g, q2.ownBlock = some g → w.heap.size ≤ g := fun g hg => by
        rcases hgn2.1.2 g (by simp [hg]) with h | h
        · exact hqn g (by simpa using h)
        · have := hal.size; have := hgo.1.size; omega
      have hck3 : w2.cell? ⟨b, off + j, none⟩ = some (.int .i64 x) := by
        refine (hgn2.1.1.cell (p := ⟨b, off + j, none⟩) (Nat.lt_of_lt_of_le hbl hal.size) (fun hin => hbG ?_)).trans hck2
        exact List.mem_cons_of_mem _ (mem_rfr.2 (.inr (.inl (by simpa using hin))))
      have HF := Lib.hid (And.intro g1 (And.intro hgo2 (And.intro hq2n e1)))
      refine hK _ _ ⟨fun _ => ⟨g3, hck3⟩, ?_⟩
      clear hK K
      obtain ⟨A9, c9, hq9⟩ := row_form hown2
      subst hq9
      clear hra hn1 hi0 hzz0 hzz1 hzz2 hnews hown2 hgn2 e1 hf hgo hqn hal hfal hck2 hbl hbG hd hlen2 g1 g2 hgo2 hq2n hck3
      refine till_one (i := 13) (by kernel_rfl) rfl rfl (fun K hK => ?_)
      go_simp
      refine hK _ _ ⟨fun h => absurd h (by omega), ?_⟩
      clear hK K
      refine till_one (i := 14) (by kernel_rfl) rfl rfl (fun K hK => ?_)
      go_simp
      refine hK _ _ ⟨fun h => absurd h (by omega), ?_⟩
      clear hK K
      refine till_one (i := 15) (by kernel_rfl) rfl rfl (fun K hK => ?_)
      go_simp
      refine hK _ _ ⟨fun h => absurd h (by omega), till_done (by kernel_rfl) ?_ _⟩
      clear hK K g3 g4
      go_wp2
      go_roundg (n - (j + 1))
      case measure => omega
      case rel =>
        obtain ⟨g1, hgo2, hq2n, e1⟩ := HF.out
        exact ⟨j + 1, by go_num, by omega, _, by rw [e1]; exact g1, hgo2, hq2n⟩
    · obtain rfl : j = n := by omega
      have HP := Lib.hid (And.intro hf hgo)
      clear hf hgo
      go_wp2_with fail
      go_end0
      have hf := HP.out.1
      rw [List.take_of_length_le (by rw [HN.out.1]; exact Nat.le_refl _)] at hf
      exact ⟨rfl, _, _, _, hf, HP.out.2⟩
end
end Go.Proofs.YtjimjemogbphaaaGreat
