/-
  Free pages: Release.
-/
import Derived.Test.YtjimjemogbphaaaQ3
namespace Go.Proofs.Ytjimjemogbphaaa
open Go.RowKit Go.Sort

/-- Where Release stands: T has come, x is next (if b), s waits. -/
def RelAt (thr : Int) (w : World) (F : List Nat) (p : Nat) (l k : List Int) (sq : Int) (m : List Due) (g : Nat) (n d ok : Value) (wr : World) : Prop :=
  ∃ (T s : List Due) (x : Due) (b : Bool) (G : List Nat) (D : Nat), n = .int .i64 (T.length : Nat) ∧ d = .pointer (some ⟨D, 0, none⟩) ∧ ok = .bool b ∧ Has wr D 53 #[.int .i64 x.1, .int .i64 x.2.1, .int .i64 x.2.2] ∧ D ∉ G ∧ w.heap.size ≤ D ∧
    FreeIs p wr G (whats T ++ l) sq s k ∧ Goes F w G wr ∧ (∀ y ∈ T, y.1 ≤ thr) ∧ Distinct s ∧
    ((b = true ∧ (T ++ x :: s).Perm m ∧ x.1 ≤ thr ∧ s.length + 1 ≤ g) ∨ (b = false ∧ (T ++ s).Perm m ∧ ∀ y ∈ s, thr < y.1))

set_option maxRecDepth 100000 in
set_option maxHeartbeats 2000000 in
theorem frelease_any {p : Nat} {w : World} {F : List Nat} {l k : List Int} {m : List Due} {sq : Int} (thr : Int) (h : FreeIs p w F l sq m k) (hd : Distinct m) (hk : (k = [] ∧ thr = 9223372036854775807) ∨ ∃ s, k.Perm (thr :: s) ∧ ∀ y ∈ s, thr ≤ y) (hfew : l.length + m.length ≤ 1000000) :
    Calls Try.prog 12 #[.pointer (some ⟨p, 0, none⟩)] w fun e w' => e = .returned (.int .i64 ((dueOf thr m).length : Nat)) ∧ ∃ F', FreeIs p w' F' (whats (dueOf thr m) ++ l) sq (lateOf thr m) k ∧ Goes F w F' w' := by
  suffices HH : ∀ R : Ending → World → Prop, (R = fun e w' => e = .returned (.int .i64 ((dueOf thr m).length : Nat)) ∧ ∃ F', FreeIs p w' F' (whats (dueOf thr m) ++ l) sq (lateOf thr m) k ∧ Goes F w F' w') →
      Calls Try.prog 12 #[.pointer (some ⟨p, 0, none⟩)] w R from HH _ rfl
  intro R hR
  have HRR := Lib.hid hR
  clear hR
  have hf := fpinned_any thr h hk
  have H := Lib.hid (And.intro h (And.intro hd hfew))
  have hnx := fnext_any thr h hd
  clear h hd hk hfew
  go_enter Try.func12, Try.ntmps12
  go_wp2_with fail
  refine hf.mono ?_
  rintro e wq ⟨hwq, hb⟩
  have hwq := hwq.symm
  subst hwq
  clear hf
  rcases hb with rfl | ⟨ht, x0, rfl⟩
  · go_wp2_with fail
    refine hnx.mono ?_
    rintro e w1 ⟨b, x, s, F', rfl, hfr, hgo, hb⟩
    clear hnx
    obtain ⟨h, hd, hfew⟩ := H.out
    have hb1 : Below w1.heap.size w1 (w1.alloc (.cells #[.int .i64 x.1, .int .i64 x.2.1, .int .i64 x.2.2] 53)) := (Below.refl _ _).alloc (Nat.le_refl _) _
    have hst : RelAt thr w F p l k sq m (s.length + 1) (.int .i64 0) (.pointer (some ⟨w1.heap.size, 0, none⟩)) (.bool b) (w1.alloc (.cells #[.int .i64 x.1, .int .i64 x.2.1, .int .i64 x.2.2] 53)) := by
      refine ⟨[], s, x, b, F', w1.heap.size, rfl, rfl, rfl, Has.made _ _ _, fun hx => by have := hfr.lt _ hx; omega, hgo.1.size, by simpa [whats] using hfr.below hb1, ⟨hgo.1.alloc _, hgo.2⟩, by simp, ?_, ?_⟩
      · rcases hb with ⟨_, _, _, h⟩ | ⟨_, rfl, _⟩
        · exact h
        · exact hd
      · rcases hb with ⟨h1, h2, h3, _⟩ | ⟨h1, rfl, h2⟩
        · exact .inl ⟨h1, by simpa using h2.symm, h3, Nat.le_refl _⟩
        · exact .inr ⟨h1, List.Perm.refl _, h2⟩
    have HS := Lib.hid hst
    clear hst hb1 h hd hfew hfr hgo hb
    unfold dval
    go_wp2_with fail
    go_loopg [5, 6, 7] (s.length + 1) (RelAt thr w F p l k sq m)
    case atStart => exact HS.out
    case round =>
      clear HS
      obtain ⟨T, s, x, b, G, D, rfl, rfl, rfl, hD, hDG, hwD, hfr, hgo, hT, hds, hb⟩ := hrel
      cases b
      · have hb' : (T ++ s).Perm m ∧ ∀ y ∈ s, thr < y.1 := by
          rcases hb with ⟨h, _⟩ | ⟨_, h⟩
          · cases h
          · exact h
        obtain ⟨h1, h2⟩ := parts_of hb'.1 hT hb'.2
        have hlen := h1.length_eq
        have HF := Lib.hid (And.intro (hfr.perm ((h1.map fun d : Due => d.2.2).append_right l) h2 (List.Perm.refl _)) hgo)
        rw [hlen]
        clear hb hb' h1 h2 hlen hfr hgo hT hds hD hDG hwD
        go_wp2_with fail
        have hR := HRR.out
        clear HRR
        subst hR
        exact ⟨rfl, G, HF.out.1, HF.out.2⟩
      · have hb' : (T ++ x :: s).Perm m ∧ x.1 ≤ thr ∧ s.length + 1 ≤ gk := by
          rcases hb with ⟨_, h⟩ | ⟨h, _⟩
          · exact h
          · cases h
        clear hb
        have hcnt : T.length + s.length + 1 = m.length := by have := hb'.1.length_eq; simp at this; omega
        have hfew := H.out.2.2
        have hpu := fback1_any x.2.2 (hfr.kept (G := []) (Kept.refl _ _).drew (by simp)) (by simp [whats]; omega)
        have c0 := hD.cell 0
        have c1 := hD.cell 1
        have c2 := hD.cell 2
        simp at c0 c1 c2
        have hS : wr.drew.cell? ⟨D, 2, none⟩ = some (.int .i64 x.2.2) := c2
        have hDin := hD.inside
        have hS1 : (wr.alloc (.cells #[.int .i64 x.2.2] 3)).drew.cell? ⟨D, 2, none⟩ = some (.int .i64 x.2.2) := by
          have := (hD.alloc (.cells #[.int .i64 x.2.2] 3)).cell 2
          simpa using this
        have HR := Lib.hid (And.intro hD (And.intro hDG (And.intro hwD (And.intro hgo (And.intro hT (And.intro hds hb'))))))
        have hTn : T.length ≤ 1000000 := by omega
        obtain ⟨n, hn⟩ : ∃ n, T.length = n := ⟨_, rfl⟩
        have HN := Lib.hid hn
        rw [hn] at hTn
        rw [hn]
        clear hn hD hDG hwD hgo hT hds hb' hcnt hfew hfr
        go_wp2_with fail
        refine wp_region_tills (fun w' => w'.cell? ⟨D, 2, none⟩ = some (.int .i64 x.2.2)) 6 (by kernel_rfl) ?_
        refine till_takeAt 36 (i := 0) (v := .pointer (some ⟨p, 0, none⟩)) rfl rfl (by kernel_rfl) (by kernel_rfl) (by kernel_rfl) (by kernel_rfl) (by kernel_rfl) (fun _ _ _ h => h) (Or.inl ⟨by rfl, fun w' hw' => by obtain q1 := hw'; go_simp⟩) hS ?_
        simp only [List.setIfInBounds_toArray, List.set_cons_zero, List.set_cons_succ]
        refine till_takeAt 37 (i := 1) (v := .pointer (some ⟨p, 0, none⟩)) rfl rfl (by kernel_rfl) (by kernel_rfl) (by kernel_rfl) (by kernel_rfl) (by kernel_rfl) (fun _ _ _ h => h) (Or.inl ⟨by rfl, fun w' hw' => by obtain q1 := hw'; go_simp⟩) hS ?_
        simp only [List.setIfInBounds_toArray, List.set_cons_zero, List.set_cons_succ]
        refine till_takeAt 38 (i := 2) (v := .pointer (some ⟨p, 0, none⟩)) rfl rfl (by kernel_rfl) (by kernel_rfl) (by kernel_rfl) (by kernel_rfl) (by kernel_rfl) (fun _ _ _ h => h) (Or.inl ⟨by rfl, fun w' hw' => by obtain q1 := hw'; go_simp⟩) hS ?_
        simp only [List.setIfInBounds_toArray, List.set_cons_zero, List.set_cons_succ]
        refine till_takeAt 39 (i := 3) (v := .pointer (some ⟨D, 2, none⟩)) rfl rfl (by kernel_rfl) (by kernel_rfl) (by kernel_rfl) (by kernel_rfl) (by kernel_rfl) (fun _ _ _ h => h) (Or.inl ⟨by rfl, fun w' hw' => by obtain q1 := hw'; go_simp⟩) hS ?_
        simp only [List.setIfInBounds_toArray, List.set_cons_zero, List.set_cons_succ]
        refine till_takeAt 40 (i := 4) (v := .int .i64 x.2.2) rfl rfl (by kernel_rfl) (by kernel_rfl) (by kernel_rfl) (by kernel_rfl) (by kernel_rfl) (fun _ _ _ h => h) (Or.inl ⟨by rfl, fun w' hw' => by obtain q1 := hw'; go_simp⟩) hS ?_
        simp only [List.setIfInBounds_toArray, List.set_cons_zero, List.set_cons_succ]
        refine till_one (i := 5) (by kernel_rfl) rfl rfl (fun K hK => ?_)
        go_simp
        refine hK _ _ ⟨fun _ => hS1, ?_⟩
        clear hK K hS hS1
        refine till_one (i := 6) (by kernel_rfl) rfl rfl (fun K hK => ?_)
        go_simp
        refine hpu.mono ?_
        rintro e w2 ⟨rfl, G2, hf2, hg2⟩
        refine hK _ _ ⟨fun h => absurd h (by omega), till_done (by kernel_rfl) ?_ _⟩
        clear hK K hpu
        have hg2 := Goes.trans (⟨(Kept.refl G _).drew, fun k hk => .inl hk⟩ : Goes G wr G wr.drew) hg2
        obtain ⟨hD, hDG, hwD, hgo, hT, hds, hb'⟩ := HR.out
        have hD2 := hD.kept hg2.1 hDG
        have c0 := hD2.cell 0
        have c1 := hD2.cell 1
        have c2 := hD2.cell 2
        simp at c0 c1 c2
        have hb2 : Below w2.heap.size w2 (w2.alloc (.cells #[.int .i64 x.1, .int .i64 x.2.1, .int .i64 x.2.2] 53)) := (Below.refl _ _).alloc (Nat.le_refl _) _
        have hnx := fnext_any thr (hf2.below hb2) hds
        have H2 := Lib.hid (And.intro hf2 (And.intro hg2 hb2))
        clear hD hDG hwD hgo hT hds hb' hD2 hf2 hg2 hb2
        go_wp2_with fail
        refine hnx.mono ?_
        rintro e w3 ⟨b, y, s2, G3, rfl, hf3, hg3, hb3⟩
        clear hnx
        obtain ⟨hD, hDG, hwD, hgo, hT, hds, hb'⟩ := HR.out
        obtain ⟨hf2, hg2, hb2⟩ := H2.out
        have hnG : w2.heap.size ∉ G2 := fun hx => by have := hf2.lt _ hx; omega
        have hnG3 : w2.heap.size ∉ G3 := fun hx => (hg3.2 _ hx).elim hnG (fun h => by simp at h; omega)
        have hm3 := (Has.made w2 53 #[.int .i64 x.1, .int .i64 x.2.1, .int .i64 x.2.2]).kept hg3.1 hnG
        have e0 := hm3.cell 0
        have e1 := hm3.cell 1
        have e2 := hm3.cell 2
        have f0 := hm3.free 0
        have f1 := hm3.free 1
        have f2 := hm3.free 2
        simp at e0 e1 e2
        have hgw : Goes F w G3 w3 := (hgo.trans hg2).trans (Goes.trans ⟨Kept.of_below hb2, fun k hk => .inl hk⟩ hg3)
        have hwD2 : w.heap.size ≤ w2.heap.size := (hgo.trans hg2).1.size
        have hst : RelAt thr w F p l k sq m (s.length) (.int .i64 ((n + 1 : Nat) : Int)) (.pointer (some ⟨w2.heap.size, 0, none⟩)) (.bool b) (((w3.setCell ⟨w2.heap.size, 0, none⟩ (.int .i64 y.1)).setCell ⟨w2.heap.size, 1, none⟩ (.int .i64 y.2.1)).setCell ⟨w2.heap.size, 2, none⟩ (.int .i64 y.2.2)) := by
          have hk2 : Kept [w2.heap.size] w3 (((w3.setCell ⟨w2.heap.size, 0, none⟩ (.int .i64 y.1)).setCell ⟨w2.heap.size, 1, none⟩ (.int .i64 y.2.1)).setCell ⟨w2.heap.size, 2, none⟩ (.int .i64 y.2.2)) := (((Kept.refl _ _).setCell (by simp) _).setCell (by simp) _).setCell (by simp) _
          refine ⟨x :: T, s2, y, b, G3, w2.heap.size, by rw [List.length_cons, HN.out], rfl, rfl, ?_, hnG3, hwD2, ?_, ⟨?_, hgw.2⟩, ?_, ?_, ?_⟩
          · have := ((hm3.put 0 (.int .i64 y.1)).put 1 (.int .i64 y.2.1)).put 2 (.int .i64 y.2.2)
            simpa using this
          · simpa [whats] using hf3.kept hk2 (fun z hz hz2 => by simp at hz2; subst hz2; exact hnG3 hz)
          · exact (((hgw.1.setCell (.inr hwD2) _).setCell (.inr hwD2) _).setCell (.inr hwD2) _)
          · intro z hz
            rcases List.mem_cons.1 hz with rfl | hz
            · exact hb'.2.1
            · exact hT z hz
          · rcases hb3 with ⟨_, _, _, h⟩ | ⟨_, rfl, _⟩
            · exact h
            · exact hds
          · have hpm : (x :: T ++ s).Perm m := (List.perm_middle (l₁ := T) (a := x) (l₂ := s)).symm.trans hb'.1
            rcases hb3 with ⟨h1, h2, h3, _⟩ | ⟨h1, rfl, h2⟩
            · exact .inl ⟨h1, (List.Perm.append_left _ h2.symm).trans hpm, h3, by have := h2.length_eq; simp at this; omega⟩
            · exact .inr ⟨h1, hpm, h2⟩
        have HS := Lib.hid hst
        have hle : w2.heap.size < w3.heap.size := hm3.inside
        have hsg := hb'.2.2
        clear hst hD hDG hwD hgo hT hds hb' hf2 hg2 hb2 hnG hnG3 hm3 hgw hwD2 hf3 hg3 hb3
        unfold dval
        go_wp2
        go_roundg s.length
        case measure => omega
        case rel => exact HS.out
  · subst ht
    go_wp2_with fail
    generalize (9223372036854775807 : Int) = thr at *
    refine hnx.mono ?_
    rintro e w1 ⟨b, x, s, F', rfl, hfr, hgo, hb⟩
    clear hnx
    obtain ⟨h, hd, hfew⟩ := H.out
    have hb1 : Below w1.heap.size w1 (w1.alloc (.cells #[.int .i64 x.1, .int .i64 x.2.1, .int .i64 x.2.2] 53)) := (Below.refl _ _).alloc (Nat.le_refl _) _
    have hst : RelAt thr w F p l k sq m (s.length + 1) (.int .i64 0) (.pointer (some ⟨w1.heap.size, 0, none⟩)) (.bool b) (w1.alloc (.cells #[.int .i64 x.1, .int .i64 x.2.1, .int .i64 x.2.2] 53)) := by
      refine ⟨[], s, x, b, F', w1.heap.size, rfl, rfl, rfl, Has.made _ _ _, fun hx => by have := hfr.lt _ hx; omega, hgo.1.size, by simpa [whats] using hfr.below hb1, ⟨hgo.1.alloc _, hgo.2⟩, by simp, ?_, ?_⟩
      · rcases hb with ⟨_, _, _, h⟩ | ⟨_, rfl, _⟩
        · exact h
        · exact hd
      · rcases hb with ⟨h1, h2, h3, _⟩ | ⟨h1, rfl, h2⟩
        · exact .inl ⟨h1, by simpa using h2.symm, h3, Nat.le_refl _⟩
        · exact .inr ⟨h1, List.Perm.refl _, h2⟩
    have HS := Lib.hid hst
    clear hst hb1 h hd hfew hfr hgo hb
    unfold dval
    go_wp2_with fail
    go_loopg [5, 6, 7] (s.length + 1) (RelAt thr w F p l k sq m)
    case atStart => exact HS.out
    case round =>
      clear HS
      obtain ⟨T, s, x, b, G, D, rfl, rfl, rfl, hD, hDG, hwD, hfr, hgo, hT, hds, hb⟩ := hrel
      cases b
      · have hb' : (T ++ s).Perm m ∧ ∀ y ∈ s, thr < y.1 := by
          rcases hb with ⟨h, _⟩ | ⟨_, h⟩
          · cases h
          · exact h
        obtain ⟨h1, h2⟩ := parts_of hb'.1 hT hb'.2
        have hlen := h1.length_eq
        have HF := Lib.hid (And.intro (hfr.perm ((h1.map fun d : Due => d.2.2).append_right l) h2 (List.Perm.refl _)) hgo)
        rw [hlen]
        clear hb hb' h1 h2 hlen hfr hgo hT hds hD hDG hwD
        go_wp2_with fail
        have hR := HRR.out
        clear HRR
        subst hR
        exact ⟨rfl, G, HF.out.1, HF.out.2⟩
      · have hb' : (T ++ x :: s).Perm m ∧ x.1 ≤ thr ∧ s.length + 1 ≤ gk := by
          rcases hb with ⟨_, h⟩ | ⟨h, _⟩
          · exact h
          · cases h
        clear hb
        have hcnt : T.length + s.length + 1 = m.length := by have := hb'.1.length_eq; simp at this; omega
        have hfew := H.out.2.2
        have hpu := fback1_any x.2.2 (hfr.kept (G := []) (Kept.refl _ _).drew (by simp)) (by simp [whats]; omega)
        have c0 := hD.cell 0
        have c1 := hD.cell 1
        have c2 := hD.cell 2
        simp at c0 c1 c2
        have hS : wr.drew.cell? ⟨D, 2, none⟩ = some (.int .i64 x.2.2) := c2
        have hDin := hD.inside
        have hS1 : (wr.alloc (.cells #[.int .i64 x.2.2] 3)).drew.cell? ⟨D, 2, none⟩ = some (.int .i64 x.2.2) := by
          have := (hD.alloc (.cells #[.int .i64 x.2.2] 3)).cell 2
          simpa using this
        have HR := Lib.hid (And.intro hD (And.intro hDG (And.intro hwD (And.intro hgo (And.intro hT (And.intro hds hb'))))))
        have hTn : T.length ≤ 1000000 := by omega
        obtain ⟨n, hn⟩ : ∃ n, T.length = n := ⟨_, rfl⟩
        have HN := Lib.hid hn
        rw [hn] at hTn
        rw [hn]
        clear hn hD hDG hwD hgo hT hds hb' hcnt hfew hfr
        go_wp2_with fail
        refine wp_region_tills (fun w' => w'.cell? ⟨D, 2, none⟩ = some (.int .i64 x.2.2)) 6 (by kernel_rfl) ?_
        refine till_takeAt 36 (i := 0) (v := .pointer (some ⟨p, 0, none⟩)) rfl rfl (by kernel_rfl) (by kernel_rfl) (by kernel_rfl) (by kernel_rfl) (by kernel_rfl) (fun _ _ _ h => h) (Or.inl ⟨by rfl, fun w' hw' => by obtain q1 := hw'; go_simp⟩) hS ?_
        simp only [List.setIfInBounds_toArray, List.set_cons_zero, List.set_cons_succ]
        refine till_takeAt 37 (i := 1) (v := .pointer (some ⟨p, 0, none⟩)) rfl rfl (by kernel_rfl) (by kernel_rfl) (by kernel_rfl) (by kernel_rfl) (by kernel_rfl) (fun _ _ _ h => h) (Or.inl ⟨by rfl, fun w' hw' => by obtain q1 := hw'; go_simp⟩) hS ?_
        simp only [List.setIfInBounds_toArray, List.set_cons_zero, List.set_cons_succ]
        refine till_takeAt 38 (i := 2) (v := .pointer (some ⟨p, 0, none⟩)) rfl rfl (by kernel_rfl) (by kernel_rfl) (by kernel_rfl) (by kernel_rfl) (by kernel_rfl) (fun _ _ _ h => h) (Or.inl ⟨by rfl, fun w' hw' => by obtain q1 := hw'; go_simp⟩) hS ?_
        simp only [List.setIfInBounds_toArray, List.set_cons_zero, List.set_cons_succ]
        refine till_takeAt 39 (i := 3) (v := .pointer (some ⟨D, 2, none⟩)) rfl rfl (by kernel_rfl) (by kernel_rfl) (by kernel_rfl) (by kernel_rfl) (by kernel_rfl) (fun _ _ _ h => h) (Or.inl ⟨by rfl, fun w' hw' => by obtain q1 := hw'; go_simp⟩) hS ?_
        simp only [List.setIfInBounds_toArray, List.set_cons_zero, List.set_cons_succ]
        refine till_takeAt 40 (i := 4) (v := .int .i64 x.2.2) rfl rfl (by kernel_rfl) (by kernel_rfl) (by kernel_rfl) (by kernel_rfl) (by kernel_rfl) (fun _ _ _ h => h) (Or.inl ⟨by rfl, fun w' hw' => by obtain q1 := hw'; go_simp⟩) hS ?_
        simp only [List.setIfInBounds_toArray, List.set_cons_zero, List.set_cons_succ]
        refine till_one (i := 5) (by kernel_rfl) rfl rfl (fun K hK => ?_)
        go_simp
        refine hK _ _ ⟨fun _ => hS1, ?_⟩
        clear hK K hS hS1
        refine till_one (i := 6) (by kernel_rfl) rfl rfl (fun K hK => ?_)
        go_simp
        refine hpu.mono ?_
        rintro e w2 ⟨rfl, G2, hf2, hg2⟩
        refine hK _ _ ⟨fun h => absurd h (by omega), till_done (by kernel_rfl) ?_ _⟩
        clear hK K hpu
        have hg2 := Goes.trans (⟨(Kept.refl G _).drew, fun k hk => .inl hk⟩ : Goes G wr G wr.drew) hg2
        obtain ⟨hD, hDG, hwD, hgo, hT, hds, hb'⟩ := HR.out
        have hD2 := hD.kept hg2.1 hDG
        have c0 := hD2.cell 0
        have c1 := hD2.cell 1
        have c2 := hD2.cell 2
        simp at c0 c1 c2
        have hb2 : Below w2.heap.size w2 (w2.alloc (.cells #[.int .i64 x.1, .int .i64 x.2.1, .int .i64 x.2.2] 53)) := (Below.refl _ _).alloc (Nat.le_refl _) _
        have hnx := fnext_any thr (hf2.below hb2) hds
        have H2 := Lib.hid (And.intro hf2 (And.intro hg2 hb2))
        clear hD hDG hwD hgo hT hds hb' hD2 hf2 hg2 hb2
        go_wp2_with fail
        refine hnx.mono ?_
        rintro e w3 ⟨b, y, s2, G3, rfl, hf3, hg3, hb3⟩
        clear hnx
        obtain ⟨hD, hDG, hwD, hgo, hT, hds, hb'⟩ := HR.out
        obtain ⟨hf2, hg2, hb2⟩ := H2.out
        have hnG : w2.heap.size ∉ G2 := fun hx => by have := hf2.lt _ hx; omega
        have hnG3 : w2.heap.size ∉ G3 := fun hx => (hg3.2 _ hx).elim hnG (fun h => by simp at h; omega)
        have hm3 := (Has.made w2 53 #[.int .i64 x.1, .int .i64 x.2.1, .int .i64 x.2.2]).kept hg3.1 hnG
        have e0 := hm3.cell 0
        have e1 := hm3.cell 1
        have e2 := hm3.cell 2
        have f0 := hm3.free 0
        have f1 := hm3.free 1
        have f2 := hm3.free 2
        simp at e0 e1 e2
        have hgw : Goes F w G3 w3 := (hgo.trans hg2).trans (Goes.trans ⟨Kept.of_below hb2, fun k hk => .inl hk⟩ hg3)
        have hwD2 : w.heap.size ≤ w2.heap.size := (hgo.trans hg2).1.size
        have hst : RelAt thr w F p l k sq m (s.length) (.int .i64 ((n + 1 : Nat) : Int)) (.pointer (some ⟨w2.heap.size, 0, none⟩)) (.bool b) (((w3.setCell ⟨w2.heap.size, 0, none⟩ (.int .i64 y.1)).setCell ⟨w2.heap.size, 1, none⟩ (.int .i64 y.2.1)).setCell ⟨w2.heap.size, 2, none⟩ (.int .i64 y.2.2)) := by
          have hk2 : Kept [w2.heap.size] w3 (((w3.setCell ⟨w2.heap.size, 0, none⟩ (.int .i64 y.1)).setCell ⟨w2.heap.size, 1, none⟩ (.int .i64 y.2.1)).setCell ⟨w2.heap.size, 2, none⟩ (.int .i64 y.2.2)) := (((Kept.refl _ _).setCell (by simp) _).setCell (by simp) _).setCell (by simp) _
          refine ⟨x :: T, s2, y, b, G3, w2.heap.size, by rw [List.length_cons, HN.out], rfl, rfl, ?_, hnG3, hwD2, ?_, ⟨?_, hgw.2⟩, ?_, ?_, ?_⟩
          · have := ((hm3.put 0 (.int .i64 y.1)).put 1 (.int .i64 y.2.1)).put 2 (.int .i64 y.2.2)
            simpa using this
          · simpa [whats] using hf3.kept hk2 (fun z hz hz2 => by simp at hz2; subst hz2; exact hnG3 hz)
          · exact (((hgw.1.setCell (.inr hwD2) _).setCell (.inr hwD2) _).setCell (.inr hwD2) _)
          · intro z hz
            rcases List.mem_cons.1 hz with rfl | hz
            · exact hb'.2.1
            · exact hT z hz
          · rcases hb3 with ⟨_, _, _, h⟩ | ⟨_, rfl, _⟩
            · exact h
            · exact hds
          · have hpm : (x :: T ++ s).Perm m := (List.perm_middle (l₁ := T) (a := x) (l₂ := s)).symm.trans hb'.1
            rcases hb3 with ⟨h1, h2, h3, _⟩ | ⟨h1, rfl, h2⟩
            · exact .inl ⟨h1, (List.Perm.append_left _ h2.symm).trans hpm, h3, by have := h2.length_eq; simp at this; omega⟩
            · exact .inr ⟨h1, hpm, h2⟩
        have HS := Lib.hid hst
        have hle : w2.heap.size < w3.heap.size := hm3.inside
        have hsg := hb'.2.2
        clear hst hD hDG hwD hgo hT hds hb' hf2 hg2 hb2 hnG hnG3 hm3 hgw hwD2 hf3 hg3 hb3
        unfold dval
        go_wp2
        go_roundg s.length
        case measure => omega
        case rel => exact HS.out
end Go.Proofs.Ytjimjemogbphaaa
