/-
  A pager's calls that only look at it: none, Own, Pages, Read.
-/
import Derived.Test.YtmcfldcpmjdfbaaGreatDoorMg23
import Derived.Test.YtmcfldcpmjdfbaaGreatDoorMg24
import Derived.Test.YtmcfldcpmjdfbaaGreatDoorMg31
namespace Go.Proofs.YtmcfldcpmjdfbaaGreatDoor
open Go.RowKit Go.Sort

set_option maxRecDepth 1000000 in
set_option maxHeartbeats 1000000 in
theorem gnone_nil (w : World) : Calls Tryz.prog 34 #[.pointer none] w fun e w' => e = .returned (.bool true) ∧ w = w' := by
  go_enter Tryz.func34, Tryz.ntmps34
  go_wp2
  go_ret
  exact ⟨rfl, rfl⟩
set_option maxRecDepth 1000000 in
set_option maxHeartbeats 1000000 in
theorem gnone_zero (p : Nat) (w : World) (c0 : w.cell? ⟨p, 0, none⟩ = some (.pointer none)) : Calls Tryz.prog 34 #[.pointer (some ⟨p, 0, none⟩)] w fun e w' => e = .returned (.bool true) ∧ w = w' := by
  go_enter Tryz.func34, Tryz.ntmps34
  go_wp2
  go_ret
  exact ⟨rfl, rfl⟩
set_option maxRecDepth 1000000 in
set_option maxHeartbeats 1000000 in
theorem gnone_at (p pd : Nat) (w : World) (c0 : w.cell? ⟨p, 0, none⟩ = some (.pointer (some ⟨pd, 0, none⟩))) : Calls Tryz.prog 34 #[.pointer (some ⟨p, 0, none⟩)] w fun e w' => e = .returned (.bool false) ∧ w = w' := by
  go_enter Tryz.func34, Tryz.ntmps34
  go_wp2
  go_ret
  exact ⟨rfl, rfl⟩

/-- The cells of a pager, as they are read. -/
theorem pg_cells {w : World} {p pd pf b : Nat} {v : Value} {t0 t1 t2 : Int} (h : Has w p 45 (pgCells pd pf b v t0 t1 t2)) :
    w.cell? ⟨p, 0, none⟩ = some (.pointer (some ⟨pd, 0, none⟩)) ∧ w.cell? ⟨p, 1, none⟩ = some (.pointer (some ⟨pf, 0, none⟩)) ∧ w.cell? ⟨p, 6, none⟩ = some (.int .i64 t0) ∧ w.cell? ⟨p, 7, none⟩ = some (.int .i64 t1) ∧
    w.cell? ⟨p, 8, none⟩ = some (.int .i64 t2) ∧ w.cell? ⟨p, 9, none⟩ = some (.map (some b)) :=
  ⟨h.cell 0, h.cell 1, h.cell 6, h.cell 7, h.cell 8, h.cell 9⟩

section
variable {p pd pf b : Nat} {s : PgS} {F : List Nat} {w : World}

set_option maxRecDepth 1000000 in
set_option maxHeartbeats 1000000 in
theorem gown_any (x : Int) (hx : IsInt x) (h : PgIs p pd pf b s F w) :
    Calls Tryz.prog 15 #[.pointer (some ⟨p, 0, none⟩), .int .i64 x] w fun e w' => e = .returned (.bool (decide ((s.H x).fate = 1))) ∧ w = w' := by
  obtain ⟨v, hp⟩ := h.cells
  obtain ⟨c0, c1, c6, c7, c8, c9⟩ := pg_cells hp
  have hl := h.here.look hx
  have hn := gnone_at p pd w c0
  unfold chgV at hl
  generalize s.H x = c at *
  obtain ⟨f, k, n, t⟩ := c
  simp only at hl ⊢
  have hfd := chg_fate f k n t
  clear h hp hx
  go_enter Tryz.func15, Tryz.ntmps15
  go_wp2_with (go_at_call 34; refine hn.mono ?_; rintro e w' ⟨rfl, rfl⟩)
  go_ret
  exact ⟨ret_bool (by simp [BEq.beq]), rfl⟩

set_option maxRecDepth 1000000 in
set_option maxHeartbeats 1000000 in
theorem gpages_any (h : PgIs p pd pf b s F w) : Calls Tryz.prog 16 #[.pointer (some ⟨p, 0, none⟩)] w fun e w' => e = .returned (.int .i64 s.pages) ∧ w = w' := by
  obtain ⟨v, hp⟩ := h.cells
  obtain ⟨c0, c1, c6, c7, c8, c9⟩ := pg_cells hp
  have hn := gnone_at p pd w c0
  clear h hp
  go_enter Tryz.func16, Tryz.ntmps16
  go_wp2_with (go_at_call 34; refine hn.mono ?_; rintro e w' ⟨rfl, rfl⟩)
  go_ret
  exact ⟨rfl, rfl⟩

set_option maxRecDepth 1000000 in
set_option maxHeartbeats 2000000 in
theorem gread_out (x : Int) (hx : x < 2 ∨ s.pages ≤ x) (h : PgIs p pd pf b s F w) :
    Calls Tryz.prog 9 #[.pointer (some ⟨p, 0, none⟩), .int .i64 x] w fun e w' => e = .returned (.tuple #[.agg #[.int .i64 0, .int .i64 0, .string ⟨#[]⟩], .int .i64 3]) ∧ Below w.heap.size w w' := by
  obtain ⟨v, hp⟩ := h.cells
  have hi := hp.inside
  obtain ⟨c0, c1, c6, c7, c8, c9⟩ := pg_cells hp
  have hn := gnone_at p pd _ ((hp.alloc (.cells #[.int .i64 0, .int .i64 0, .string ⟨#[]⟩] 23)).cell 0)
  generalize s.pages = q at *
  clear h hp
  rcases Int.lt_or_le x 2 with h2 | h2
  · have hb1 : decide (x < 2) = true := by simpa using h2
    clear hx h2
    go_enter Tryz.func9, Tryz.ntmps9
    go_wp2_with (go_at_call 34; refine hn.mono ?_; rintro e w' ⟨rfl, rfl⟩)
    exact bodyPost_ret (v := .tuple #[.agg #[.int .i64 0, .int .i64 0, .string ⟨#[]⟩], .int .i64 3]) (by simp [results, Tryz.results9, go_sem]) rfl ⟨rfl, (Below.refl _ _).alloc (Nat.le_refl _) _⟩
  · have hb1 : decide (x < 2) = false := by simpa using h2
    have hb2 : decide (q ≤ x) = true := by simp; omega
    clear hx h2
    go_enter Tryz.func9, Tryz.ntmps9
    go_wp2_with (go_at_call 34; refine hn.mono ?_; rintro e w' ⟨rfl, rfl⟩)
    exact bodyPost_ret (v := .tuple #[.agg #[.int .i64 0, .int .i64 0, .string ⟨#[]⟩], .int .i64 3]) (by simp [results, Tryz.results9, go_sem]) rfl ⟨rfl, (Below.refl _ _).alloc (Nat.le_refl _) _⟩

set_option maxRecDepth 1000000 in
set_option maxHeartbeats 2000000 in
theorem gread_made (x : Int) (h0 : 2 ≤ x) (h1 : x < s.pages) (hx : IsInt x) (hf : (s.H x).fate = 1) (hs : (s.H x).body.size ≤ 281474976710656) (h : PgIs p pd pf b s F w) :
    Calls Tryz.prog 9 #[.pointer (some ⟨p, 0, none⟩), .int .i64 x] w fun e w' => e = .returned (.tuple #[.agg #[.int .i64 (s.H x).kind, .int .i64 (s.H x).next, .string (s.H x).body], .int .i64 0]) ∧ Below w.heap.size w w' := by
  have hA : Below w.heap.size w (w.alloc (.cells #[.int .i64 0, .int .i64 0, .string ⟨#[]⟩] 23)) := (Below.refl _ _).alloc (Nat.le_refl _) _
  have h' := h.below hA
  obtain ⟨v, hp⟩ := h'.cells
  have hi := hp.inside
  obtain ⟨c0, c1, c6, c7, c8, c9⟩ := pg_cells hp
  have hl := h'.here.look hx
  have hn := gnone_at p pd _ c0
  unfold chgV at hl
  generalize s.H x = c at *
  obtain ⟨f, k, n, t⟩ := c
  simp only at hf hs hl ⊢
  subst hf
  have hb1 : decide (x < 2) = false := by simpa using h0
  have hb2 : decide (s.pages ≤ x) = false := by simpa using h1
  generalize s.pages = q at *
  clear h hp h'
  go_enter Tryz.func9, Tryz.ntmps9
  go_wp2_with (go_at_call 34; refine hn.mono ?_; rintro e w' ⟨rfl, rfl⟩)
  refine (tclone_any t hs _).mono ?_
  rintro e w1 ⟨rfl, hb⟩
  have hB : Below w.heap.size w w1 := (hA.alloc (by simp) (.cells #[.int .i64 1, .int .i64 k, .int .i64 n, .string t] 84)).trans (hb.mono (by simp; omega))
  have hr : Has w1 w.heap.size 23 #[.int .i64 0, .int .i64 0, .string ⟨#[]⟩] := ((Has.made w 23 #[.int .i64 0, .int .i64 0, .string ⟨#[]⟩]).alloc (.cells #[.int .i64 1, .int .i64 k, .int .i64 n, .string t] 84)).below hb (by simp; omega)
  have hc : Has w1 (w.heap.size + 1) 84 #[.int .i64 1, .int .i64 k, .int .i64 n, .string t] := by
    have := (Has.made (w.alloc (.cells #[.int .i64 0, .int .i64 0, .string ⟨#[]⟩] 23)) 84 #[.int .i64 1, .int .i64 k, .int .i64 n, .string t]).below hb (by simp)
    simpa using this
  have r0 := hr.cell 0
  have r1 := hr.cell 1
  have r2 := hr.cell 2
  have e0 := hr.free 0
  have e1 := hr.free 1
  have e2 := hr.free 2
  have d1 := hc.cell 1
  have d2 := hc.cell 2
  have d3 := hc.cell 3
  have f3 := hc.free 3
  have hi1 := hc.inside
  have hi2 := hr.inside
  simp at r0 r1 r2 d1 d2 d3
  have HB := Lib.hid hB
  clear hB hr hc hb hA hl c0 c1 c6 c7 c8 c9 hn hi
  go_wp2
  refine bodyPost_ret (v := .tuple #[.agg #[.int .i64 k, .int .i64 n, .string t], .int .i64 0]) (by simp [results, Tryz.results9, go_sem, r0, r1, r2]) rfl ⟨rfl, ?_⟩
  exact (((HB.out.setCell (by simp) _).setCell (Nat.le_refl _) _).setCell (Nat.le_refl _) _).setCell (Nat.le_refl _) _
set_option maxRecDepth 1000000 in
set_option maxHeartbeats 2000000 in
theorem gread_gone (x : Int) (h0 : 2 ≤ x) (h1 : x < s.pages) (hx : IsInt x) (hf : (s.H x).fate = 2 ∨ (s.H x).fate = 3) (h : PgIs p pd pf b s F w) :
    Calls Tryz.prog 9 #[.pointer (some ⟨p, 0, none⟩), .int .i64 x] w fun e w' => e = .returned (.tuple #[.agg #[.int .i64 0, .int .i64 0, .string ⟨#[]⟩], .int .i64 7]) ∧ Below w.heap.size w w' := by
  have hA : Below w.heap.size w (w.alloc (.cells #[.int .i64 0, .int .i64 0, .string ⟨#[]⟩] 23)) := (Below.refl _ _).alloc (Nat.le_refl _) _
  have h' := h.below hA
  obtain ⟨v, hp⟩ := h'.cells
  have hi := hp.inside
  obtain ⟨c0, c1, c6, c7, c8, c9⟩ := pg_cells hp
  have hl := h'.here.look hx
  have hn := gnone_at p pd _ c0
  unfold chgV at hl
  generalize s.H x = c at *
  obtain ⟨f, k, n, t⟩ := c
  simp only at hf hl ⊢
  have hb1 : decide (x < 2) = false := by simpa using h0
  have hb2 : decide (s.pages ≤ x) = false := by simpa using h1
  generalize s.pages = q at *
  clear h hp h'
  rcases hf with rfl | rfl
  · go_enter Tryz.func9, Tryz.ntmps9
    go_wp2_with (go_at_call 34; refine hn.mono ?_; rintro e w' ⟨rfl, rfl⟩)
    refine bodyPost_ret (v := .tuple #[.agg #[.int .i64 0, .int .i64 0, .string ⟨#[]⟩], .int .i64 7]) (by simp [results, Tryz.results9, go_sem]) rfl ⟨rfl, ?_⟩
    exact hA.alloc (by simp) _
  · go_enter Tryz.func9, Tryz.ntmps9
    go_wp2_with (go_at_call 34; refine hn.mono ?_; rintro e w' ⟨rfl, rfl⟩)
    refine bodyPost_ret (v := .tuple #[.agg #[.int .i64 0, .int .i64 0, .string ⟨#[]⟩], .int .i64 7]) (by simp [results, Tryz.results9, go_sem]) rfl ⟨rfl, ?_⟩
    exact hA.alloc (by simp) _

set_option maxRecDepth 1000000 in
set_option maxHeartbeats 2000000 in
theorem gread_dev (x : Int) (h0 : 2 ≤ x) (h1 : x < s.pages) (hx : IsInt x) (hf : (s.H x).fate ≠ 1 ∧ (s.H x).fate ≠ 2 ∧ (s.H x).fate ≠ 3) (h : PgIs p pd pf b s F w) :
    Calls Tryz.prog 9 #[.pointer (some ⟨p, 0, none⟩), .int .i64 x] w fun e w' => (∃ (k n : Int) (t : ByteArray) (g : Int), e = .returned (.tuple #[.agg #[.int .i64 k, .int .i64 n, .string t], .int .i64 g])) ∧ Below w.heap.size w w' := by
  have hA : Below w.heap.size w (w.alloc (.cells #[.int .i64 0, .int .i64 0, .string ⟨#[]⟩] 23)) := (Below.refl _ _).alloc (Nat.le_refl _) _
  have h' := h.below hA
  obtain ⟨v, hp⟩ := h'.cells
  have hi := hp.inside
  obtain ⟨c0, c1, c6, c7, c8, c9⟩ := pg_cells hp
  have hl := h'.here.look hx
  have hn := gnone_at p pd _ c0
  unfold chgV at hl
  generalize s.H x = c at *
  obtain ⟨f, k, n, t⟩ := c
  simp only at hf hl
  have hb1 : decide (x < 2) = false := by simpa using h0
  have hb2 : decide (s.pages ≤ x) = false := by simpa using h1
  have f1 : (f == 1) = false := by simpa using hf.1
  have f2 : (f == 2) = false := by simpa using hf.2.1
  have f3 : (f == 3) = false := by simpa using hf.2.2
  have hA2 : Below w.heap.size w ((w.alloc (.cells #[.int .i64 0, .int .i64 0, .string ⟨#[]⟩] 23)).alloc (.cells #[.int .i64 f, .int .i64 k, .int .i64 n, .string t] 84)) := hA.alloc (by simp) _
  obtain ⟨FD, hd, -, -⟩ := (h.below hA2).devL
  obtain ⟨v2, hp2⟩ := (h.below hA2).cells
  have g0 := (pg_cells hp2).1
  have hrd := read_any pd s.dev FD x _ hd
  generalize readB s.dev x = rb at *
  generalize readE s.dev x = re at *
  generalize s.pages = q at *
  have H := Lib.hid hA2
  clear h hp h' hd hA hA2 hf hp2
  go_enter Tryz.func9, Tryz.ntmps9
  go_wp2_with (go_at_call 34; refine hn.mono ?_; rintro e w' ⟨rfl, rfl⟩)
  refine hrd.mono ?_
  rintro e w1 ⟨rfl, hb⟩
  have hr : Has w1 w.heap.size 23 #[.int .i64 0, .int .i64 0, .string ⟨#[]⟩] := ((Has.made w 23 #[.int .i64 0, .int .i64 0, .string ⟨#[]⟩]).alloc (.cells #[.int .i64 f, .int .i64 k, .int .i64 n, .string t] 84)).below hb (by simp; omega)
  have hB : Below w.heap.size w w1 := H.out.trans (hb.mono (by simp; omega))
  clear hrd hb hl c0 c1 c6 c7 c8 c9 hn hi g0
  have hi2 := hr.inside
  by_cases hre : re = 0
  · subst hre
    have hop := open_any x rb w1
    have HR := Lib.hid (And.intro hr hB)
    clear hr hB
    go_wp2_with fail
    refine hop.mono ?_
    rintro e w2 ⟨rfl, hb2⟩
    unfold openV
    generalize (openK x rb.data.toList : Int) = kk at *
    generalize (openN x rb.data.toList : Int) = nn at *
    generalize (⟨(openS x rb.data.toList).toArray⟩ : ByteArray) = tt at *
    generalize openE x rb.data.toList = ee at *
    have hr := HR.out.1.below hb2 hi2
    have r0 := hr.cell 0
    have r1 := hr.cell 1
    have r2 := hr.cell 2
    have e0 := hr.free 0
    have e1 := hr.free 1
    have e2 := hr.free 2
    simp at r0 r1 r2
    have hi3 := hr.inside
    have HB := Lib.hid (HR.out.2.trans (hb2.mono (by omega)))
    clear hr hb2 hop
    go_wp2
    refine bodyPost_ret (v := .tuple #[.agg #[.int .i64 kk, .int .i64 nn, .string tt], .int .i64 ee]) (by simp [results, Tryz.results9, go_sem, r0, r1, r2]) rfl ⟨⟨kk, nn, tt, ee, rfl⟩, ?_⟩
    exact ((HB.out.setCell (Nat.le_refl _) _).setCell (Nat.le_refl _) _).setCell (Nat.le_refl _) _
  · have hre' : (re != 0) = true := by simpa using hre
    have r0 := hr.cell 0
    have r1 := hr.cell 1
    have r2 := hr.cell 2
    have e0 := hr.free 0
    have e1 := hr.free 1
    have e2 := hr.free 2
    simp at r0 r1 r2
    have HB := Lib.hid hB
    clear hr hB hre
    go_wp2
    refine bodyPost_ret (v := .tuple #[.agg #[.int .i64 0, .int .i64 0, .string ⟨#[]⟩], .int .i64 re]) (by simp [results, Tryz.results9, go_sem, r0, r1, r2]) rfl ⟨⟨0, 0, ⟨#[]⟩, re, rfl⟩, ?_⟩
    exact ((HB.out.setCell (Nat.le_refl _) _).setCell (Nat.le_refl _) _).setCell (Nat.le_refl _) _

/-- Read, of any number: where it is OK there is such a page, and it was not dropped here. -/
theorem gread_any (x : Int) (hx : IsInt x) (hs : (s.H x).body.size ≤ 281474976710656) (h : PgIs p pd pf b s F w) :
    Calls Tryz.prog 9 #[.pointer (some ⟨p, 0, none⟩), .int .i64 x] w fun e w' => (∃ (k n : Int) (t : ByteArray) (g : Int), e = .returned (.tuple #[.agg #[.int .i64 k, .int .i64 n, .string t], .int .i64 g]) ∧ (g = 0 → 2 ≤ x ∧ x < s.pages ∧ (s.H x).fate ≠ 2 ∧ (s.H x).fate ≠ 3) ∧ (2 ≤ x → x < s.pages → (s.H x).fate = 1 → g = 0)) ∧ Below w.heap.size w w' := by
  by_cases h0 : x < 2 ∨ s.pages ≤ x
  · exact (gread_out x h0 h).mono fun e w' ⟨he, hb⟩ => ⟨⟨0, 0, _, 3, he, by simp, fun _ _ _ => by omega⟩, hb⟩
  · have a : 2 ≤ x := by omega
    have c : x < s.pages := by omega
    by_cases f1 : (s.H x).fate = 1
    · exact (gread_made x a c hx f1 hs h).mono fun e w' ⟨he, hb⟩ => ⟨⟨_, _, _, 0, he, fun _ => ⟨a, c, by omega, by omega⟩, fun _ _ _ => rfl⟩, hb⟩
    · by_cases f2 : (s.H x).fate = 2 ∨ (s.H x).fate = 3
      · exact (gread_gone x a c hx f2 h).mono fun e w' ⟨he, hb⟩ => ⟨⟨0, 0, _, 7, he, by simp, fun _ _ hf => absurd hf f1⟩, hb⟩
      · exact (gread_dev x a c hx (by omega) h).mono fun e w' ⟨⟨k, n, t, g, he⟩, hb⟩ => ⟨⟨k, n, t, g, he, fun _ => ⟨a, c, by omega, by omega⟩, fun _ _ hf => absurd hf f1⟩, hb⟩
end
end Go.Proofs.YtmcfldcpmjdfbaaGreatDoor
