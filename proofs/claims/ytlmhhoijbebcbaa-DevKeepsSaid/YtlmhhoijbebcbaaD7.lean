/-
  Walks: Twin.
-/
import Derived.Test.YtlmhhoijbebcbaaD6
namespace Go.Proofs.Ytlmhhoijbebcbaa
open Go.RowKit Go.Lib

/-- A list of pages is cloned. -/
def Cloned (W : World) (xs : List ByteArray) (e : Ending) (w' : World) : Prop :=
  ∃ A c, e = .returned (.slice A xs.length c) ∧ w'.ownsRow 0 9 1 (.slice A xs.length c) xs.length (xs.map Value.string) ∧ (∀ k, (Value.slice A xs.length c).ownBlock = some k → W.heap.size ≤ k) ∧ Below W.heap.size W w'

theorem cloned_of {W w' : World} {xs : List ByteArray} {v : Value} (h : w'.ownsRow W.heap.size 9 1 v xs.length (xs.map Value.string)) (hb : Below W.heap.size W w') : Cloned W xs (.returned v) w' := by
  have h0 := row_base (base' := 0) h (fun _ _ => Nat.zero_le _)
  obtain ⟨A, c, rfl, _⟩ := row_form h0
  exact ⟨A, c, rfl, h0, fun k e => (World.ownsRow.lt h k e).1, hb⟩

theorem sclone_any (W : World) (pv : Value) (xs : List ByteArray) (h : W.ownsRow 0 9 1 pv xs.length (xs.map Value.string)) (hl : xs.length ≤ 3000) : Calls Try.prog 33 #[pv] W (Cloned W xs) := by
  rcases h.2 with ⟨rfl, h0⟩ | ⟨g, cap, cur, rfl, _, hg, hn, hm, _⟩
  · obtain rfl : xs = [] := List.eq_nil_of_length_eq_zero h0
    refine (Try.slices_Clone_string_nil 0 0 W).mono ?_
    rintro e w' ⟨rfl, rfl⟩
    exact ⟨none, 0, rfl, World.ownsRow_nil _ _ _ _, (fun k e => by cases e), Below.refl _ _⟩
  · rcases Nat.eq_zero_or_pos xs.length with h0 | h0
    · obtain rfl : xs = [] := List.eq_nil_of_length_eq_zero h0
      refine (Try.slices_Clone_string_zero ⟨g, 0, none⟩ cap W).mono ?_
      rintro e w' ⟨v', rfl, h1, _, hb⟩
      exact cloned_of h1 hb
    · refine (Try.slices_Clone_string g 0 xs.length cap xs W (Nat.le_refl _) (by omega) (fun j hj => ?_)).mono ?_
      · have := World.ownsRow.cells h rfl j (.string xs[j]) (by simp [hj])
        rw [Go.WideShapes.add_plain] at this
        rw [this, List.getD, List.getElem?_eq_getElem hj]
        rfl
      · rintro e w' ⟨v', rfl, h1, _, hb⟩
        rw [List.take_length] at h1
        exact cloned_of h1 hb

/-- What Twin comes to: a device that is the same, in blocks of its own. -/
def TwinTo (p : Nat) (s : DevS) (F : List Nat) (w : World) (e : Ending) (w' : World) : Prop :=
  ∃ (q : Nat) (Q : List Nat) (cap' : Nat), e = .returned (.pointer (some ⟨q, 0, none⟩)) ∧ DevAt w' p s F ∧ DevAt w' q { s with cap := cap' } Q ∧ (∀ k ∈ Q, w.heap.size ≤ k) ∧ Kept F w w' ∧ cap' ≤ 16 + 2 * s.line.length

set_option maxHeartbeats 400000 in
theorem twin_nil (w : World) : Calls Try.prog 20 #[.pointer none] w fun e w' => e = .returned (.pointer none) ∧ w = w' := by
  go_enter Try.func20, Try.ntmps20
  go_wp2
  go_ret
  exact ⟨rfl, rfl⟩

set_option maxRecDepth 1000000 in
set_option maxHeartbeats 800000 in
theorem twin_any (p : Nat) (s : DevS) (F : List Nat) (w : World) (h : DevAt w p s F) (hl : s.line.length ≤ 10000000000) : Calls Try.prog 20 #[.pointer (some ⟨p, 0, none⟩)] w (TwinTo p s F w) := by
  have hok := h.ok
  obtain ⟨pv, sv, ch, hmem, hF⟩ := h.mem_
  obtain ⟨A1, cc1, hpv, -⟩ := row_form hmem.rowp
  obtain ⟨A2, cc2, hsv, -⟩ := row_form hmem.rows
  subst hpv
  subst hsv
  have c0 : w.cell? ⟨p, 0, none⟩ = some (.int .i64 s.most) := hmem.line.has.cell 0
  have c1 : w.cell? ⟨p, 1, none⟩ = some (.bool s.on) := hmem.line.has.cell 1
  have c2 : w.cell? ⟨p, 2, none⟩ = some (.int .i64 s.fuse) := hmem.line.has.cell 2
  have c3 : w.cell? ⟨p, 3, none⟩ = some (.slice A1 s.pages.length cc1) := hmem.line.has.cell 3
  have c4 : w.cell? ⟨p, 4, none⟩ = some (.slice A2 s.synced.length cc2) := hmem.line.has.cell 4
  have c5 : w.cell? ⟨p, 5, none⟩ = some (.chan ch) := hmem.line.has.cell 5
  have hpl := hmem.line.has.inside
  have HM := Lib.hid (And.intro hok (And.intro hmem hF))
  clear h hok hmem hF
  go_enter Try.func20, Try.ntmps20
  go_wp2_with fail
  have hk0 : Kept [] w (w.alloc (.cells #[.int .i64 s.most, .bool s.on, .int .i64 s.fuse, .slice A1 s.pages.length cc1, .slice A2 s.synced.length cc2, .chan ch] 50)) := (Kept.refl _ _).alloc _
  have hTB := Has.made w 50 #[.int .i64 s.most, .bool s.on, .int .i64 s.fuse, .slice A1 s.pages.length cc1, .slice A2 s.synced.length cc2, .chan ch]
  have z3 := (hk0.cell (p := ⟨p, 3, none⟩) hpl (by simp)).trans c3
  have z4 := (hk0.cell (p := ⟨p, 4, none⟩) hpl (by simp)).trans c4
  have hsz : (w.alloc (.cells #[.int .i64 s.most, .bool s.on, .int .i64 s.fuse, .slice A1 s.pages.length cc1, .slice A2 s.synced.length cc2, .chan ch] 50)).heap.size = w.heap.size + 1 := by simp
  generalize w.alloc (.cells #[.int .i64 s.most, .bool s.on, .int .i64 s.fuse, .slice A1 s.pages.length cc1, .slice A2 s.synced.length cc2, .chan ch] 50) = W1 at *
  obtain ⟨hok, hmem, hF⟩ := HM.out
  have hr1 : W1.drew.ownsRow 0 9 1 (.slice A1 s.pages.length cc1) s.pages.length (s.pages.map Value.string) := (row_kept hmem.rowp hk0 (by simp)).drew
  have hcl1 := sclone_any W1.drew _ s.pages hr1 hok.few
  have hsl : s.synced.length ≤ 3000 := by rw [hok.len]; exact hok.few
  have HK0 := Lib.hid hk0
  have HTB := Lib.hid hTB
  have HSZ := Lib.hid hsz
  have HSL := Lib.hid hsl
  clear hk0 hTB hok hmem hF hr1 hsz hsl
  have hS : W1.drew.cell? ⟨p, 3, none⟩ = some (.slice A1 s.pages.length cc1) ∧ W1.drew.cell? ⟨p, 4, none⟩ = some (.slice A2 s.synced.length cc2) := ⟨z3, z4⟩
  refine wp_region_till (fun w' => w'.cell? ⟨p, 3, none⟩ = some (.slice A1 s.pages.length cc1) ∧ w'.cell? ⟨p, 4, none⟩ = some (.slice A2 s.synced.length cc2)) 19 (by kernel_rfl) ?_
  refine anyTill_takeAt 9 (i := 0) (v := .pointer (some ⟨p, 0, none⟩)) rfl rfl (by kernel_rfl) (by kernel_rfl) (by kernel_rfl) (by kernel_rfl) (fun _ _ _ h => h) (Or.inl ⟨by rfl, fun w' hw' => by obtain ⟨q1, q2⟩ := hw'; go_simp⟩) hS ?_
  simp only [List.setIfInBounds_toArray, List.set_cons_zero, List.set_cons_succ]
  refine anyTill_takeAt 10 (i := 1) (v := .pointer (some ⟨p, 0, none⟩)) rfl rfl (by kernel_rfl) (by kernel_rfl) (by kernel_rfl) (by kernel_rfl) (fun _ _ _ h => h) (Or.inl ⟨by rfl, fun w' hw' => by obtain ⟨q1, q2⟩ := hw'; go_simp⟩) hS ?_
  simp only [List.setIfInBounds_toArray, List.set_cons_zero, List.set_cons_succ]
  refine anyTill_takeAt 11 (i := 2) (v := .pointer (some ⟨p, 3, none⟩)) rfl rfl (by kernel_rfl) (by kernel_rfl) (by kernel_rfl) (by kernel_rfl) (fun _ _ _ h => h) (Or.inl ⟨by rfl, fun w' hw' => by obtain ⟨q1, q2⟩ := hw'; go_simp⟩) hS ?_
  simp only [List.setIfInBounds_toArray, List.set_cons_zero, List.set_cons_succ]
  refine anyTill_takeAt 12 (i := 3) (v := .slice A1 s.pages.length cc1) rfl rfl (by kernel_rfl) (by kernel_rfl) (by kernel_rfl) (by kernel_rfl) (fun _ _ _ h => h) (Or.inl ⟨by rfl, fun w' hw' => by obtain ⟨q1, q2⟩ := hw'; go_simp⟩) hS ?_
  simp only [List.setIfInBounds_toArray, List.set_cons_zero, List.set_cons_succ]
  refine anyTill_takeAt 14 (i := 5) (v := .pointer (some ⟨p, 0, none⟩)) rfl rfl (by kernel_rfl) (by kernel_rfl) (by kernel_rfl) (by kernel_rfl) (fun _ _ _ h => h) (Or.inl ⟨by rfl, fun w' hw' => by obtain ⟨q1, q2⟩ := hw'; go_simp⟩) hS ?_
  simp only [List.setIfInBounds_toArray, List.set_cons_zero, List.set_cons_succ]
  refine anyTill_takeAt 15 (i := 6) (v := .pointer (some ⟨p, 0, none⟩)) rfl rfl (by kernel_rfl) (by kernel_rfl) (by kernel_rfl) (by kernel_rfl) (fun _ _ _ h => h) (Or.inl ⟨by rfl, fun w' hw' => by obtain ⟨q1, q2⟩ := hw'; go_simp⟩) hS ?_
  simp only [List.setIfInBounds_toArray, List.set_cons_zero, List.set_cons_succ]
  refine anyTill_takeAt 16 (i := 7) (v := .pointer (some ⟨p, 4, none⟩)) rfl rfl (by kernel_rfl) (by kernel_rfl) (by kernel_rfl) (by kernel_rfl) (fun _ _ _ h => h) (Or.inl ⟨by rfl, fun w' hw' => by obtain ⟨q1, q2⟩ := hw'; go_simp⟩) hS ?_
  simp only [List.setIfInBounds_toArray, List.set_cons_zero, List.set_cons_succ]
  refine anyTill_takeAt 17 (i := 8) (v := .slice A2 s.synced.length cc2) rfl rfl (by kernel_rfl) (by kernel_rfl) (by kernel_rfl) (by kernel_rfl) (fun _ _ _ h => h) (Or.inl ⟨by rfl, fun w' hw' => by obtain ⟨q1, q2⟩ := hw'; go_simp⟩) hS ?_
  simp only [List.setIfInBounds_toArray, List.set_cons_zero, List.set_cons_succ]
  refine anyTill_takeAt 19 (i := 10) (v := .pointer (some ⟨p, 0, none⟩)) rfl rfl (by kernel_rfl) (by kernel_rfl) (by kernel_rfl) (by kernel_rfl) (fun _ _ _ h => h) (Or.inl ⟨by rfl, fun w' hw' => by obtain ⟨q1, q2⟩ := hw'; go_simp⟩) hS ?_
  simp only [List.setIfInBounds_toArray, List.set_cons_zero, List.set_cons_succ]
  refine anyTill_takeAt 20 (i := 11) (v := .pointer (some ⟨p, 0, none⟩)) rfl rfl (by kernel_rfl) (by kernel_rfl) (by kernel_rfl) (by kernel_rfl) (fun _ _ _ h => h) (Or.inl ⟨by rfl, fun w' hw' => by obtain ⟨q1, q2⟩ := hw'; go_simp⟩) hS ?_
  simp only [List.setIfInBounds_toArray, List.set_cons_zero, List.set_cons_succ]
  refine anyTill_takeAt 21 (i := 12) (v := .pointer (some ⟨p, 5, none⟩)) rfl rfl (by kernel_rfl) (by kernel_rfl) (by kernel_rfl) (by kernel_rfl) (fun _ _ _ h => h) (Or.inl ⟨by rfl, fun w' hw' => by obtain ⟨q1, q2⟩ := hw'; go_simp⟩) hS ?_
  simp only [List.setIfInBounds_toArray, List.set_cons_zero, List.set_cons_succ]
  refine anyTill_one (i := 4) (by kernel_rfl) rfl rfl (fun K hK => ?_)
  go_simp
  refine hcl1.mono ?_
  rintro e w2 ⟨B1, k1, rfl, ho1, hn1, hb1⟩
  have hpW : p < W1.drew.heap.size := by show p < W1.heap.size; rw [HSZ.out]; omega
  have hz1 : w.heap.size + 1 ≤ W1.drew.heap.size := by show w.heap.size + 1 ≤ W1.heap.size; rw [HSZ.out]; omega
  have hs2 := hb1.size
  have hS2 : w2.cell? ⟨p, 3, none⟩ = some (.slice A1 s.pages.length cc1) ∧ w2.cell? ⟨p, 4, none⟩ = some (.slice A2 s.synced.length cc2) := ⟨(hb1.cell (p := ⟨p, 3, none⟩) hpW).trans z3, (hb1.cell (p := ⟨p, 4, none⟩) hpW).trans z4⟩
  refine hK _ _ ⟨fun _ => hS2, ?_⟩
  clear hK K
  have hk2 : Kept [] w w2 := (HK0.out.drew).trans (Kept.of_below hb1)
  have ht2 : Has w2 w.heap.size 50 #[.int .i64 s.most, .bool s.on, .int .i64 s.fuse, .slice A1 s.pages.length cc1, .slice A2 s.synced.length cc2, .chan ch] := HTB.out.kept ((Kept.refl [] W1).drew.trans (Kept.of_below hb1)) (by simp)
  have hcl2 := sclone_any w2 _ s.synced (row_kept HM.out.2.1.rows hk2 (by simp)) HSL.out
  have H1 := Lib.hid (And.intro ho1 (And.intro hn1 (And.intro hk2 ht2)))
  clear ho1 hn1 hk2 ht2 hb1
  refine anyTill_one (i := 9) (by kernel_rfl) rfl rfl (fun K hK => ?_)
  go_simp
  refine hcl2.mono ?_
  rintro e w3 ⟨B2, k2, rfl, ho2, hn2, hb2⟩
  have hpW2 : p < w2.heap.size := by omega
  have hs3 := hb2.size
  have hS3 : w3.cell? ⟨p, 3, none⟩ = some (.slice A1 s.pages.length cc1) ∧ w3.cell? ⟨p, 4, none⟩ = some (.slice A2 s.synced.length cc2) := ⟨(hb2.cell (p := ⟨p, 3, none⟩) hpW2).trans hS2.1, (hb2.cell (p := ⟨p, 4, none⟩) hpW2).trans hS2.2⟩
  refine hK _ _ ⟨fun _ => hS3, ?_⟩
  clear hK K
  have hkb2 : Kept [] w2 w3 := Kept.of_below hb2
  have htw := ltwin_any p 50 _ 5 s.line s.cap ch w3 (HM.out.2.1.line.kept (H1.out.2.2.1.trans hkb2) (by simp) (by simp)) hl
  have H2 := Lib.hid (And.intro ho2 (And.intro hn2 hkb2))
  clear ho2 hn2 hkb2 hb2
  refine anyTill_one (i := 13) (by kernel_rfl) rfl rfl (fun K hK => ?_)
  go_simp
  refine htw.mono ?_
  rintro e w4 ⟨cap', ch', rfl, hl4, hk4, hcap4, hge4, hnil4, hfull4, hle4, h164⟩
  obtain ⟨ho1, hn1, hk2, ht2⟩ := H1.out
  obtain ⟨ho2, hn2, hkb2⟩ := H2.out
  obtain ⟨hok, hmem, hF⟩ := HM.out
  obtain ⟨n1, n2, n3⟩ := nodup_devBlocks.1 hmem.nodup
  have hs4 := hk4.size
  have hchlt : ∀ c, ch = some c → c < w.heap.size := fun c e => by subst e; exact hmem.line.chlt
  have hpc : p ∉ ch.toList := by simp; exact n3
  have htc : w.heap.size ∉ ch.toList := by simp; intro e; have := hchlt _ e; omega
  have hS4 : w4.cell? ⟨p, 3, none⟩ = some (.slice A1 s.pages.length cc1) ∧ w4.cell? ⟨p, 4, none⟩ = some (.slice A2 s.synced.length cc2) :=
    ⟨(hk4.cell (p := ⟨p, 3, none⟩) (by show p < w3.heap.size; omega) hpc).trans hS3.1, (hk4.cell (p := ⟨p, 4, none⟩) (by show p < w3.heap.size; omega) hpc).trans hS3.2⟩
  have ht4 := (ht2.kept hkb2 (by simp)).kept hk4 htc
  have y3 := ht4.free 3
  have y4 := ht4.free 4
  have y5 := ht4.free 5
  have x3 := ht4.cell 3
  have x4 := ht4.cell 4
  have x5 := ht4.cell 5
  simp at x3 x4 x5
  have hpt : p ≠ w.heap.size := by omega
  have hSX : ∀ (W : World) (i : Nat) (u : Value), (W.cell? ⟨p, 3, none⟩ = some (.slice A1 s.pages.length cc1) ∧ W.cell? ⟨p, 4, none⟩ = some (.slice A2 s.synced.length cc2)) →
      ((W.setCell ⟨w.heap.size, i, none⟩ u).cell? ⟨p, 3, none⟩ = some (.slice A1 s.pages.length cc1) ∧ (W.setCell ⟨w.heap.size, i, none⟩ u).cell? ⟨p, 4, none⟩ = some (.slice A2 s.synced.length cc2)) := fun W i u hW =>
    ⟨(World.cell?_of_block (w := W) (Below.heap_setCell W _ _ p hpt)).trans hW.1, (World.cell?_of_block (w := W) (Below.heap_setCell W _ _ p hpt)).trans hW.2⟩
  have hfin : TwinTo p s F w (.returned (.pointer (some ⟨w.heap.size, 0, none⟩))) (((w4.setCell ⟨w.heap.size, 3, none⟩ (.slice B1 s.pages.length k1)).setCell ⟨w.heap.size, 4, none⟩ (.slice B2 s.synced.length k2)).setCell ⟨w.heap.size, 5, none⟩ (.chan ch')) := by
    have hk7 : Kept [w.heap.size] w4 (((w4.setCell ⟨w.heap.size, 3, none⟩ (.slice B1 s.pages.length k1)).setCell ⟨w.heap.size, 4, none⟩ (.slice B2 s.synced.length k2)).setCell ⟨w.heap.size, 5, none⟩ (.chan ch')) :=
      (((Kept.refl _ _).setCell (.inl (by simp)) _).setCell (.inl (by simp)) _).setCell (.inl (by simp)) _
    have ht7 : Has (((w4.setCell ⟨w.heap.size, 3, none⟩ (.slice B1 s.pages.length k1)).setCell ⟨w.heap.size, 4, none⟩ (.slice B2 s.synced.length k2)).setCell ⟨w.heap.size, 5, none⟩ (.chan ch')) w.heap.size 50 (devCells s (.slice B1 s.pages.length k1) (.slice B2 s.synced.length k2) ch') := by
      simpa [devCells] using ((ht4.put 3 (.slice B1 s.pages.length k1)).put 4 (.slice B2 s.synced.length k2)).put 5 (.chan ch')
    generalize ((w4.setCell ⟨w.heap.size, 3, none⟩ (.slice B1 s.pages.length k1)).setCell ⟨w.heap.size, 4, none⟩ (.slice B2 s.synced.length k2)).setCell ⟨w.heap.size, 5, none⟩ (.chan ch') = w7 at *
    have hk23 : Kept [] w w3 := hk2.trans hkb2
    have hb1 : ∀ k, (Value.slice B1 s.pages.length k1).ownBlock = some k → w.heap.size < k ∧ k < w2.heap.size := fun k e => ⟨by have := hn1 k e; omega, (World.ownsRow.lt ho1 k e).2⟩
    have hb2 : ∀ k, (Value.slice B2 s.synced.length k2).ownBlock = some k → w2.heap.size ≤ k ∧ k < w3.heap.size := fun k e => ⟨hn2 k e, (World.ownsRow.lt ho2 k e).2⟩
    have hr1 := row_kept (row_kept (row_kept ho1 hkb2 (by simp)) hk4 (fun g e => by simp; intro e2; have := hchlt _ e2; have := hb1 g e; omega)) hk7 (fun g e => by simp; have := hb1 g e; omega)
    have hr2 := row_kept (row_kept ho2 hk4 (fun g e => by simp; intro e2; have := hchlt _ e2; have := hb2 g e; omega)) hk7 (fun g e => by simp; have := hb2 g e; omega)
    have hold : DevMem w7 p s (.slice A1 s.pages.length cc1) (.slice A2 s.synced.length cc2) ch :=
      ⟨hl4.kept hk7 (by simpa using hpt) (fun c e => by simp; have := hchlt c e; omega),
       row_kept (row_kept (row_kept hmem.rowp hk23 (by simp)) hk4 (fun g e => by simp; exact (n1 g e).2.2)) hk7 (fun g e => by simp; have := (World.ownsRow.lt hmem.rowp g e).2; omega),
       row_kept (row_kept (row_kept hmem.rows hk23 (by simp)) hk4 (fun g e => by simp; exact (n2 g e).2)) hk7 (fun g e => by simp; have := (World.ownsRow.lt hmem.rows g e).2; omega), hmem.nodup⟩
    have hnew : DevMem w7 w.heap.size { s with cap := cap' } (.slice B1 s.pages.length k1) (.slice B2 s.synced.length k2) ch' := by
      refine ⟨⟨ht7, rfl, hnil4, fun c e => ?_, hle4, h164⟩, hr1, hr2, nodup_devBlocks.2 ⟨fun k e => ⟨by have := hb1 k e; omega, fun e2 => by have := hb1 k e; have := hb2 k e2; omega, fun e2 => by have := hb1 k e; have := hge4 k e2; omega⟩, fun k e => ⟨by have := hb2 k e; omega, fun e2 => by have := hb2 k e; have := hge4 k e2; omega⟩, fun e2 => by have := hge4 _ e2; omega⟩⟩
      obtain ⟨s1, r1, h1⟩ := hfull4 c e
      exact ⟨s1, r1, chan_kept h1 hk7 (by simp; have := hge4 c e; omega)⟩
    refine ⟨w.heap.size, _, cap', rfl, by rw [hF]; exact hold.at_ hok, hnew.at_ ⟨hok.most, hok.fuse, hok.len, hok.few, hok.pages, hok.synced, hok.line⟩, fun k hk => ?_, ?_, hcap4⟩
    · rcases mem_devBlocks.1 hk with e | e | e | e
      · omega
      · have := hb1 k e; omega
      · have := hb2 k e; omega
      · have := hge4 k e; omega
    · have h1 : Kept F w w3 := hk23.mono (by simp)
      have h2 : Kept F w3 w4 := hk4.mono (fun k hk => .inl (by rw [hF]; exact mem_devBlocks.2 (.inr (.inr (.inr (by simpa using hk))))))
      exact (h1.trans h2).then_ hk7 (by simp)
  have HFIN := Lib.hid hfin
  refine hK _ _ ⟨fun _ => hS4, ?_⟩
  clear hK K
  clear hfin ho1 hn1 hk2 ht2 ho2 hn2 hkb2 hok hmem hF n1 n2 n3 hl4 hk4 hcap4 hge4 hnil4 hfull4 hle4 h164 hchlt hpc htc ht4 hS hS2 hS3 z3 z4 c0 c1 c2 c3 c4 c5 hcl1 hcl2 htw
  refine anyTill_takeAt 23 (i := 14) (v := .pointer (some ⟨w.heap.size, 3, none⟩)) rfl rfl (by kernel_rfl) (by kernel_rfl) (by kernel_rfl) (by kernel_rfl) (fun _ _ _ h => h) (Or.inl ⟨by rfl, fun w' hw' => by obtain ⟨q1, q2⟩ := hw'; go_simp⟩) hS4 ?_
  simp only [List.setIfInBounds_toArray, List.set_cons_zero, List.set_cons_succ]
  refine anyTill_one (i := 15) (by kernel_rfl) rfl rfl (fun K hK => ?_)
  go_simp
  refine hK _ _ ⟨fun _ => hSX _ 3 _ hS4, ?_⟩
  clear hK K
  refine anyTill_takeAt 24 (i := 16) (v := .pointer (some ⟨w.heap.size, 4, none⟩)) rfl rfl (by kernel_rfl) (by kernel_rfl) (by kernel_rfl) (by kernel_rfl) (fun _ _ _ h => h) (Or.inl ⟨by rfl, fun w' hw' => by obtain ⟨q1, q2⟩ := hw'; go_simp⟩) (hSX _ 3 _ hS4) ?_
  simp only [List.setIfInBounds_toArray, List.set_cons_zero, List.set_cons_succ]
  refine anyTill_one (i := 17) (by kernel_rfl) rfl rfl (fun K hK => ?_)
  go_simp
  refine hK _ _ ⟨fun _ => hSX _ 4 _ (hSX _ 3 _ hS4), ?_⟩
  clear hK K
  refine anyTill_takeAt 25 (i := 18) (v := .pointer (some ⟨w.heap.size, 5, none⟩)) rfl rfl (by kernel_rfl) (by kernel_rfl) (by kernel_rfl) (by kernel_rfl) (fun _ _ _ h => h) (Or.inl ⟨by rfl, fun w' hw' => by obtain ⟨q1, q2⟩ := hw'; go_simp⟩) (hSX _ 4 _ (hSX _ 3 _ hS4)) ?_
  simp only [List.setIfInBounds_toArray, List.set_cons_zero, List.set_cons_succ]
  refine anyTill_one (i := 19) (by kernel_rfl) rfl rfl (fun K hK => ?_)
  go_simp
  refine hK _ _ ⟨fun h => absurd rfl h, ?_⟩
  clear hK K
  refine anyTill_done (by kernel_rfl) ?_ _
  clear hSX hS4 x3 x4 x5 y3 y4 y5
  go_wp2
  go_ret
  exact HFIN.out
end Go.Proofs.Ytlmhhoijbebcbaa
