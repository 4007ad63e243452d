/-
  A pager's calls that only look at it: none, Own, Pages, Read. A pager's calls that lay a page into its map: keep, set. A pager's spare ones, its free pages and its device, called through it. A pager's set and extend. A pager's Make. A pager's Drop; what Make and Drop come to, in one word each.
-/
import Derived.Test.YtpoocbkligjgbaaGreatDoorMg9
import Derived.Test.YtpoocbkligjgbaaGreatDoorMg7
import Derived.Test.YtpoocbkligjgbaaGreatDoorMg10
import Derived.StillTailTactics
import Derived.Test.YtpoocbkligjgbaaGreatDoorMg6
import Derived.IntWalk
import Derived.Deep.QuietTactic
import Derived.BigQuiet
namespace Go.Proofs.YtpoocbkligjgbaaGreatDoor
open Go.RowKit Go.Sort

set_option maxRecDepth 1000000 in
set_option maxHeartbeats 1000000 in
theorem gnone_nil (w : World) : Calls Tryz.prog 47 #[.pointer none] w fun e w' => e = .returned (.bool true) ∧ w = w' := by
  go_enter Tryz.func47, Tryz.ntmps47
  go_wp2
  go_ret
  exact ⟨rfl, rfl⟩
set_option maxRecDepth 1000000 in
set_option maxHeartbeats 1000000 in
theorem gnone_zero (p : Nat) (w : World) (c0 : w.cell? ⟨p, 0, none⟩ = some (.pointer none)) : Calls Tryz.prog 47 #[.pointer (some ⟨p, 0, none⟩)] w fun e w' => e = .returned (.bool true) ∧ w = w' := by
  go_enter Tryz.func47, Tryz.ntmps47
  go_wp2
  go_ret
  exact ⟨rfl, rfl⟩
set_option maxRecDepth 1000000 in
set_option maxHeartbeats 1000000 in
theorem gnone_at (p pd : Nat) (w : World) (c0 : w.cell? ⟨p, 0, none⟩ = some (.pointer (some ⟨pd, 0, none⟩))) : Calls Tryz.prog 47 #[.pointer (some ⟨p, 0, none⟩)] w fun e w' => e = .returned (.bool false) ∧ w = w' := by
  go_enter Tryz.func47, Tryz.ntmps47
  go_wp2
  go_ret
  exact ⟨rfl, rfl⟩

/-- The cells of a pager, as they are read. -/
theorem pg_cells {w : World} {p pd pf b : Nat} {v : Value} {t0 t1 t2 : Int} (h : Has w p 107 (pgCells pd pf b v t0 t1 t2)) :
    w.cell? ⟨p, 0, none⟩ = some (.pointer (some ⟨pd, 0, none⟩)) ∧ w.cell? ⟨p, 1, none⟩ = some (.pointer (some ⟨pf, 0, none⟩)) ∧ w.cell? ⟨p, 6, none⟩ = some (.int .i64 t0) ∧ w.cell? ⟨p, 7, none⟩ = some (.int .i64 t1) ∧
    w.cell? ⟨p, 8, none⟩ = some (.int .i64 t2) ∧ w.cell? ⟨p, 9, none⟩ = some (.map (some b)) :=
  ⟨h.cell 0, h.cell 1, h.cell 6, h.cell 7, h.cell 8, h.cell 9⟩

section
variable {p pd pf b : Nat} {s : PgS} {F : List Nat} {w : World}

set_option maxRecDepth 1000000 in
set_option maxHeartbeats 1000000 in
theorem gown_any (x : Int) (hx : IsInt x) (h : PgIs p pd pf b s F w) :
    Calls Tryz.prog 174 #[.pointer (some ⟨p, 0, none⟩), .int .i64 x] w fun e w' => e = .returned (.bool (decide ((s.H x).fate = 1))) ∧ w = w' := by
  obtain ⟨v, hp⟩ := h.cells
  obtain ⟨c0, c1, c6, c7, c8, c9⟩ := pg_cells hp
  have hl := h.here.look hx
  have hn := gnone_at p pd w c0
  unfold chgV at hl
  generalize s.H x = c at *
  obtain ⟨f, k, n, t⟩ := c
  simp only at hl ⊢
  have hfd := chg_fate f k n t
  clear h hp hx
  go_enter Tryz.func174, Tryz.ntmps174
  go_wp2_with (go_at_call 47; refine hn.mono ?_; rintro e w' ⟨rfl, rfl⟩)
  go_ret
  exact ⟨ret_bool (by simp [BEq.beq]), rfl⟩


set_option maxRecDepth 1000000 in
set_option maxHeartbeats 2000000 in
theorem gread_out (x : Int) (hx : x < 2 ∨ s.pages ≤ x) (h : PgIs p pd pf b s F w) :
    Calls Tryz.prog 39 #[.pointer (some ⟨p, 0, none⟩), .int .i64 x] w fun e w' => e = .returned (.tuple #[.agg #[.int .i64 0, .int .i64 0, .string ⟨#[]⟩], .int .i64 3]) ∧ Below w.heap.size w w' := by
  obtain ⟨v, hp⟩ := h.cells
  have hi := hp.inside
  obtain ⟨c0, c1, c6, c7, c8, c9⟩ := pg_cells hp
  have hn := gnone_at p pd _ ((hp.alloc (.cells #[.int .i64 0, .int .i64 0, .string ⟨#[]⟩] 60)).cell 0)
  generalize s.pages = q at *
  clear h hp
  rcases Int.lt_or_le x 2 with h2 | h2
  · have hb1 : decide (x < 2) = true := by simpa using h2
    clear hx h2
    go_enter Tryz.func39, Tryz.ntmps39
    go_wp2_with (go_at_call 47; refine hn.mono ?_; rintro e w' ⟨rfl, rfl⟩)
    exact bodyPost_ret (v := .tuple #[.agg #[.int .i64 0, .int .i64 0, .string ⟨#[]⟩], .int .i64 3]) (by simp [results, Tryz.results39, go_sem]) rfl ⟨rfl, (Below.refl _ _).alloc (Nat.le_refl _) _⟩
  · have hb1 : decide (x < 2) = false := by simpa using h2
    have hb2 : decide (q ≤ x) = true := by simp; omega
    clear hx h2
    go_enter Tryz.func39, Tryz.ntmps39
    go_wp2_with (go_at_call 47; refine hn.mono ?_; rintro e w' ⟨rfl, rfl⟩)
    exact bodyPost_ret (v := .tuple #[.agg #[.int .i64 0, .int .i64 0, .string ⟨#[]⟩], .int .i64 3]) (by simp [results, Tryz.results39, go_sem]) rfl ⟨rfl, (Below.refl _ _).alloc (Nat.le_refl _) _⟩

set_option maxRecDepth 1000000 in
set_option maxHeartbeats 2000000 in
theorem gread_made (x : Int) (h0 : 2 ≤ x) (h1 : x < s.pages) (hx : IsInt x) (hf : (s.H x).fate = 1) (hs : (s.H x).body.size ≤ 281474976710656) (h : PgIs p pd pf b s F w) :
    Calls Tryz.prog 39 #[.pointer (some ⟨p, 0, none⟩), .int .i64 x] w fun e w' => e = .returned (.tuple #[.agg #[.int .i64 (s.H x).kind, .int .i64 (s.H x).next, .string (s.H x).body], .int .i64 0]) ∧ Below w.heap.size w w' := by
  have hA : Below w.heap.size w (w.alloc (.cells #[.int .i64 0, .int .i64 0, .string ⟨#[]⟩] 60)) := (Below.refl _ _).alloc (Nat.le_refl _) _
  have h' := h.below hA
  obtain ⟨v, hp⟩ := h'.cells
  have hi := hp.inside
  obtain ⟨c0, c1, c6, c7, c8, c9⟩ := pg_cells hp
  have hl := h'.here.look hx
  have hn := gnone_at p pd _ c0
  unfold chgV at hl
  generalize s.H x = c at *
  obtain ⟨f, k, n, t⟩ := c
  simp only at hf hs hl ⊢
  subst hf
  have hb1 : decide (x < 2) = false := by simpa using h0
  have hb2 : decide (s.pages ≤ x) = false := by simpa using h1
  generalize s.pages = q at *
  clear h hp h'
  go_enter Tryz.func39, Tryz.ntmps39
  go_wp2_with (go_at_call 47; refine hn.mono ?_; rintro e w' ⟨rfl, rfl⟩)
  refine (tclone_any t hs _).mono ?_
  rintro e w1 ⟨rfl, hb⟩
  have hB : Below w.heap.size w w1 := (hA.alloc (by simp) (.cells #[.int .i64 1, .int .i64 k, .int .i64 n, .string t] 160)).trans (hb.mono (by simp; omega))
  have hr : Has w1 w.heap.size 60 #[.int .i64 0, .int .i64 0, .string ⟨#[]⟩] := ((Has.made w 60 #[.int .i64 0, .int .i64 0, .string ⟨#[]⟩]).alloc (.cells #[.int .i64 1, .int .i64 k, .int .i64 n, .string t] 160)).below hb (by simp; omega)
  have hc : Has w1 (w.heap.size + 1) 160 #[.int .i64 1, .int .i64 k, .int .i64 n, .string t] := by
    have := (Has.made (w.alloc (.cells #[.int .i64 0, .int .i64 0, .string ⟨#[]⟩] 60)) 160 #[.int .i64 1, .int .i64 k, .int .i64 n, .string t]).below hb (by simp)
    simpa using this
  have r0 := hr.cell 0
  have r1 := hr.cell 1
  have r2 := hr.cell 2
  have e0 := hr.free 0
  have e1 := hr.free 1
  have e2 := hr.free 2
  have d1 := hc.cell 1
  have d2 := hc.cell 2
  have d3 := hc.cell 3
  have f3 := hc.free 3
  have hi1 := hc.inside
  have hi2 := hr.inside
  simp at r0 r1 r2 d1 d2 d3
  have HB := Lib.hid hB
  clear hB hr hc hb hA hl c0 c1 c6 c7 c8 c9 hn hi
  go_wp2
  refine bodyPost_ret (v := .tuple #[.agg #[.int .i64 k, .int .i64 n, .string t], .int .i64 0]) (by simp [results, Tryz.results39, go_sem, r0, r1, r2]) rfl ⟨rfl, ?_⟩
  exact (((HB.out.setCell (by simp) _).setCell (Nat.le_refl _) _).setCell (Nat.le_refl _) _).setCell (Nat.le_refl _) _
set_option maxRecDepth 1000000 in
set_option maxHeartbeats 2000000 in
theorem gread_gone (x : Int) (h0 : 2 ≤ x) (h1 : x < s.pages) (hx : IsInt x) (hf : (s.H x).fate = 2 ∨ (s.H x).fate = 3) (h : PgIs p pd pf b s F w) :
    Calls Tryz.prog 39 #[.pointer (some ⟨p, 0, none⟩), .int .i64 x] w fun e w' => e = .returned (.tuple #[.agg #[.int .i64 0, .int .i64 0, .string ⟨#[]⟩], .int .i64 7]) ∧ Below w.heap.size w w' := by
  have hA : Below w.heap.size w (w.alloc (.cells #[.int .i64 0, .int .i64 0, .string ⟨#[]⟩] 60)) := (Below.refl _ _).alloc (Nat.le_refl _) _
  have h' := h.below hA
  obtain ⟨v, hp⟩ := h'.cells
  have hi := hp.inside
  obtain ⟨c0, c1, c6, c7, c8, c9⟩ := pg_cells hp
  have hl := h'.here.look hx
  have hn := gnone_at p pd _ c0
  unfold chgV at hl
  generalize s.H x = c at *
  obtain ⟨f, k, n, t⟩ := c
  simp only at hf hl ⊢
  have hb1 : decide (x < 2) = false := by simpa using h0
  have hb2 : decide (s.pages ≤ x) = false := by simpa using h1
  generalize s.pages = q at *
  clear h hp h'
  rcases hf with rfl | rfl
  · go_enter Tryz.func39, Tryz.ntmps39
    go_wp2_with (go_at_call 47; refine hn.mono ?_; rintro e w' ⟨rfl, rfl⟩)
    refine bodyPost_ret (v := .tuple #[.agg #[.int .i64 0, .int .i64 0, .string ⟨#[]⟩], .int .i64 7]) (by simp [results, Tryz.results39, go_sem]) rfl ⟨rfl, ?_⟩
    exact hA.alloc (by simp) _
  · go_enter Tryz.func39, Tryz.ntmps39
    go_wp2_with (go_at_call 47; refine hn.mono ?_; rintro e w' ⟨rfl, rfl⟩)
    refine bodyPost_ret (v := .tuple #[.agg #[.int .i64 0, .int .i64 0, .string ⟨#[]⟩], .int .i64 7]) (by simp [results, Tryz.results39, go_sem]) rfl ⟨rfl, ?_⟩
    exact hA.alloc (by simp) _


end
end Go.Proofs.YtpoocbkligjgbaaGreatDoor

namespace Go.Proofs.YtpoocbkligjgbaaGreatDoor
open Go.RowKit Go.Sort

section
variable {p pd pf b : Nat} {s : PgS} {F : List Nat} {w : World}

/-- A pager of which a page was made. -/
def keptS (s : PgS) (x : Int) (c : Chg) : PgS := { s with n := s.n + 1, H := upd s.H x c }

set_option maxRecDepth 1000000 in
set_option maxHeartbeats 2000000 in
theorem gkeep_any (x k n : Int) (t : ByteArray) (hx : IsInt x) (hs : t.size ≤ 281474976710656) (hn : s.n < 1000000) (h : PgIs p pd pf b s F w) :
    Calls Tryz.prog 121 #[.pointer (some ⟨p, 0, none⟩), .int .i64 x, .agg #[.int .i64 k, .int .i64 n, .string t]] w fun e w' => e = .returned (.tuple #[]) ∧ PgIs p pd pf b (keptS s x ⟨1, k, n, t⟩) F w' ∧ Kept F w w' := by
  have hA : Below w.heap.size w (w.alloc (.cells #[.int .i64 k, .int .i64 n, .string t] 60)) := (Below.refl _ _).alloc (Nat.le_refl _) _
  have hFl := h.lt
  have hbx := Has.made w 60 #[.int .i64 k, .int .i64 n, .string t]
  have hcl := tclone_any t hs (w.alloc (.cells #[.int .i64 k, .int .i64 n, .string t] 60))
  have HX := Lib.hid (And.intro h (And.intro hA hFl))
  have HBX := Lib.hid hbx
  clear h hA hFl hbx
  go_enter Tryz.func121, Tryz.ntmps121
  go_wp2_with fail
  refine hcl.mono ?_
  rintro e w1 ⟨rfl, hb⟩
  clear hcl
  have hb1 := HBX.out.below hb (by simp)
  have f2 := hb1.free 2
  have d2 := hb1.cell 2
  simp at d2
  have hi1 := hb1.inside
  have hb2 := hb1.put 2 (.string t)
  have hB1 : Below w.heap.size w w1 := HX.out.2.1.trans (hb.mono (by simp))
  have hk : Kept F w (w1.setCell ⟨w.heap.size, 2, none⟩ (.string t)) := (Kept.of_below hB1).setCell (.inr (Nat.le_refl _)) _ |>.mono (fun k hk => .inl hk)
  have hp2 : PgIs p pd pf b s F (w1.setCell ⟨w.heap.size, 2, none⟩ (.string t)) :=
    HX.out.1.kept (G := [w.heap.size]) ((Kept.of_below hB1).setCell (.inr (Nat.le_refl _)) _) (fun x hx hg => by have := HX.out.2.2 x hx; simp at hg; omega)
  have H2 := Lib.hid (And.intro hb2 (And.intro hk hp2))
  clear hb1 hb hb2 hB1 hk hp2 HX HBX
  go_wp2
  obtain ⟨hb2, hk, hp2⟩ := H2.out
  clear H2 f2 hi1 d2
  generalize w1.setCell ⟨w.heap.size, 2, none⟩ (.string t) = w2 at *
  have d0 := hb2.cell 0
  have d1 := hb2.cell 1
  have d2 := hb2.cell 2
  simp at d0 d1 d2
  obtain ⟨v, hp⟩ := hp2.cells
  obtain ⟨c0, c1, c6, c7, c8, c9⟩ := pg_cells hp
  have H2 := Lib.hid (And.intro hk hp2)
  clear hk hp2 hp hb2
  go_still_tail 7, (by kernel_rfl)
  change wpList _ _ _ _ _ w2.drew
  have hk2 : Kept F w w2.drew := H2.out.1.drew
  have hp2 : PgIs p pd pf b s F w2.drew := H2.out.2.kept (G := []) (Kept.refl [] w2).drew (by simp)
  refine wpList_put _ rfl _ _ _ rfl rfl hp2.here hn x rfl hx ⟨1, k, n, t⟩ rfl ?_
  intro w3 hh hk3
  obtain ⟨hp3, hk4⟩ := hp2.setHere hh hk3
  have H3 := Lib.hid (And.intro hp3 (hk2.trans hk4))
  clear hk2 hp2 hh hk3 hp3 hk4 H2 c0 c1 c6 c7 c8 c9 d0 d1 d2
  go_wp2
  go_end0
  exact ⟨rfl, H3.out⟩
end
end Go.Proofs.YtpoocbkligjgbaaGreatDoor

namespace Go.Proofs.YtpoocbkligjgbaaGreatDoor
open Go.RowKit Go.Sort

section
variable {p pd pf b : Nat} {s : PgS} {F : List Nat} {w : World}

set_option maxRecDepth 100000 in
theorem stake_some {x : Int} {l : List Int} (h : PgIs p pd pf b s F w) (hp : s.spare.Perm (x :: l)) (hm : ∀ y ∈ l, x ≤ y) :
    Calls Tryz.prog 74 #[.pointer (some ⟨p, 2, none⟩)] w fun e w' => e = .returned (.tuple #[.int .i64 x, .bool true]) ∧ ∃ F', PgIs p pd pf b { s with spare := l } F' w' ∧ Goes F w F' w' := by
  obtain ⟨F0, h0, _, hback⟩ := h.spareL
  have hc := take_some h0 hp hm
  have HB := Lib.hid hback
  clear hback h0 h hp hm
  go_enter Tryz.func74, Tryz.ntmps74
  go_wp2_with fail
  refine hc.mono ?_
  rintro e w1 ⟨rfl, hpi, hk⟩
  have H := Lib.hid (And.intro hpi hk)
  clear hpi hk hc
  go_wp2_with fail
  go_ret2
  exact ⟨rfl, HB.out _ _ _ H.out.1 ⟨H.out.2, fun k hk => .inl hk⟩⟩
set_option maxRecDepth 100000 in
theorem stake_none (h : PgIs p pd pf b s F w) (hp : s.spare = []) :
    Calls Tryz.prog 74 #[.pointer (some ⟨p, 2, none⟩)] w fun e w' => e = .returned (.tuple #[.int .i64 0, .bool false]) ∧ w' = w := by
  obtain ⟨F0, h0, _, _⟩ := h.spareL
  rw [hp] at h0
  have hc := take_none h0
  clear h0 h hp
  go_enter Tryz.func74, Tryz.ntmps74
  go_wp2_with fail
  refine hc.mono ?_
  rintro e w1 ⟨rfl, rfl⟩
  clear hc
  go_wp2_with fail
  go_ret2
  exact ⟨rfl, rfl⟩
set_option maxRecDepth 100000 in
theorem sback_any {v : Value} {xs : List Int} (h : PgIs p pd pf b s F w) (hv : ReadsO F w v (xs.map (.int .i64))) (hl : xs.length + s.spare.length ≤ 1000000) :
    Calls Tryz.prog 51 #[.pointer (some ⟨p, 2, none⟩), v] w fun e w' => e = .returned (.tuple #[]) ∧ ∃ F', PgIs p pd pf b { s with spare := xs ++ s.spare } F' w' ∧ Goes F w F' w' := by
  obtain ⟨F0, h0, hsub, hback⟩ := h.spareL
  have hc := put_any h0 (hv.mono (fun x hx => .inl (hsub x hx))) hl
  obtain ⟨A, c, rfl, _⟩ := hv
  have HB := Lib.hid hback
  clear hback h0 h hl hsub
  generalize (xs.map (Value.int .i64)).length = n at *
  go_enter Tryz.func51, Tryz.ntmps51
  go_wp2_with fail
  refine hc.mono ?_
  rintro e w1 ⟨rfl, F', hpi, hk⟩
  have H := Lib.hid (And.intro hpi hk)
  clear hpi hk hc
  go_wp2_with fail
  go_end0
  exact ⟨rfl, HB.out _ _ _ H.out.1 H.out.2⟩

/-- One number, laid for a call. -/
theorem one_readsO {G : List Nat} (x : Int) (hG : ∀ k ∈ G, k < w.heap.size) : ReadsO G (w.alloc (.cells #[.int .i64 x] 3)) (.slice (some ⟨w.heap.size, 0, none⟩) 1 1) ([x].map (.int .i64)) :=
  ⟨some ⟨w.heap.size, 0, none⟩, 1, rfl, fun _ => ⟨w.heap.size, 0, rfl, by simp, fun hF => by have := hG _ hF; omega, fun j u hu => by
    rw [Nat.zero_add, (Has.made w 3 #[.int .i64 x]).cell j]
    simpa using hu⟩⟩
theorem alloc_below (o : Obj) : Below w.heap.size w (w.alloc o) := (Below.refl _ _).alloc (Nat.le_refl _) _
theorem goes_below {w' : World} {G : List Nat} (hb : Below w.heap.size w w') : Goes G w G w' := ⟨(Kept.of_below (F := []) hb).mono (fun _ h => absurd h (by simp)), fun _ hk => .inl hk⟩

/-- One number back at once, into the spare ones. -/
theorem sback_one (x : Int) (h : PgIs p pd pf b s F w) (hl : s.spare.length < 1000000) :
    Calls Tryz.prog 51 #[.pointer (some ⟨p, 2, none⟩), .slice (some ⟨w.heap.size, 0, none⟩) 1 1] (w.alloc (.cells #[.int .i64 x] 3)) fun e w' => e = .returned (.tuple #[]) ∧ ∃ F', PgIs p pd pf b { s with spare := x :: s.spare } F' w' ∧ Goes F w F' w' := by
  have hb := alloc_below (w := w) (.cells #[.int .i64 x] 3)
  refine (sback_any (h.below hb) (one_readsO x h.lt) (by simp; omega)).mono ?_
  rintro e w' ⟨rfl, F', h1, h2⟩
  exact ⟨rfl, F', h1, (goes_below hb).trans h2⟩
theorem ptake_none (h : PgIs p pd pf b s F w) (hp : s.l = []) :
    Calls Tryz.prog 74 #[.pointer (some ⟨pf, 0, none⟩)] w fun e w' => e = .returned (.tuple #[.int .i64 0, .bool false]) ∧ w' = w := by
  obtain ⟨FF, hf, hsub, hback⟩ := h.freeL
  rw [hp] at hf
  exact ftake_none hf
theorem pgrow_any (n : Int) (h : PgIs p pd pf b s F w) :
    Calls Tryz.prog 80 #[.pointer (some ⟨pd, 0, none⟩), .int .i64 n] w fun e w' => e = .returned (.int .i64 (growAE s.dev n)) ∧ ∃ F', PgIs p pd pf b { s with dev := growAS s.dev n } F' w' ∧ Goes F w F' w' := by
  obtain ⟨FD, hd, hsub, hback⟩ := h.devL
  refine (grow_any pd s.dev FD n w hd).mono ?_
  rintro e w' ⟨rfl, F', h1, h2⟩
  exact ⟨rfl, hback _ _ _ h1 h2⟩
theorem plen_any (h : PgIs p pd pf b s F w) : Calls Tryz.prog 60 #[.pointer (some ⟨pd, 0, none⟩)] w fun e w' => e = .returned (.int .i64 s.dev.pages.length) ∧ w = w' := by
  obtain ⟨FD, hd, _, _⟩ := h.devL
  exact dvlen_any pd s.dev FD w hd
end
end Go.Proofs.YtpoocbkligjgbaaGreatDoor

namespace Go.Proofs.YtpoocbkligjgbaaGreatDoor
open Go.RowKit Go.Sort

section
variable {p pd pf b : Nat} {s : PgS} {F : List Nat} {w : World}

theorem PgIs.setPages (h : PgIs p pd pf b s F w) (q : Int) : PgIs p pd pf b { s with pages := q } F (w.setCell ⟨p, 7, none⟩ (.int .i64 q)) ∧ Kept F w (w.setCell ⟨p, 7, none⟩ (.int .i64 q)) := by
  obtain ⟨v, FD, FF, hp, hn, hh, hdv, hf, h1, h2, h3, h4, rfl⟩ := h
  have hk : Kept [p] w (w.setCell ⟨p, 7, none⟩ (.int .i64 q)) := (Kept.refl _ _).setCell (.inl (by simp)) _
  have hpn := h3 p (by simp [pgOwn])
  refine ⟨⟨v, FD, FF, hp.put 7 (.int .i64 q), hn.kept hk (fun g hg => by simp; exact hn.ne g hg), hh.kept hk (by simpa using h1), hdv.kept hk (fun x hx e => hpn.1 (by simp at e; exact e ▸ hx)), hf.kept hk (fun x hx e => hpn.2 (by simp at e; exact e ▸ hx)), h1, h2, h3, h4, rfl⟩, hk.mono (fun x hx => .inl ?_)⟩
  simp at hx
  subst hx
  simp [pgOwn]

set_option maxRecDepth 1000000 in
set_option maxHeartbeats 2000000 in
theorem gset_ok (x k n : Int) (t : ByteArray) (hx : IsInt x) (hk : IsInt k) (hn : IsInt n) (hs : t.size ≤ 281474976710656) (hse : sealE x k n t.size = 0) (hc : s.n < 1000000) (h : PgIs p pd pf b s F w) :
    Calls Tryz.prog 75 #[.pointer (some ⟨p, 0, none⟩), .int .i64 x, .agg #[.int .i64 k, .int .i64 n, .string t]] w fun e w' => e = .returned (.int .i64 0) ∧ PgIs p pd pf b (keptS s x ⟨1, k, n, t⟩) F w' ∧ Kept F w w' := by
  have hbx := Has.made w 60 #[.int .i64 k, .int .i64 n, .string t]
  have hsl := seal_any x k n t (w.alloc (.cells #[.int .i64 k, .int .i64 n, .string t] 60)) hx hk hn (by omega)
  rw [hse] at hsl
  generalize (⟨(sealB x k n t.data.toList).toArray⟩ : ByteArray) = sb at *
  have HX := Lib.hid (And.intro h hbx)
  clear h hbx
  go_enter Tryz.func75, Tryz.ntmps75
  go_wp2_with fail
  refine hsl.mono ?_
  rintro e w1 ⟨rfl, hb⟩
  clear hsl
  have hb1 := HX.out.2.below hb (by simp)
  have d0 := hb1.cell 0
  have d1 := hb1.cell 1
  have d2 := hb1.cell 2
  simp at d0 d1 d2
  have hB : Below w.heap.size w w1 := (alloc_below _).trans (hb.mono (by simp))
  have hkp := gkeep_any x k n t hx hs hc (HX.out.1.below hB)
  have HB := Lib.hid hB
  clear hb1 hb hB HX
  go_wp2_with fail
  refine hkp.mono ?_
  rintro e w2 ⟨rfl, hp2, hk2⟩
  have H2 := Lib.hid (And.intro hp2 hk2)
  clear hkp hp2 hk2 d0 d1 d2
  go_wp2_with fail
  go_ret
  exact ⟨rfl, H2.out.1, ((Kept.of_below (F := []) HB.out).mono (fun _ h => absurd h (by simp))).trans H2.out.2⟩

set_option maxRecDepth 1000000 in
set_option maxHeartbeats 2000000 in
theorem gset_bad (x k n : Int) (t : ByteArray) (hx : IsInt x) (hk : IsInt k) (hn : IsInt n) (hs : t.size ≤ 281474976710656) (hse : sealE x k n t.size ≠ 0) :
    Calls Tryz.prog 75 #[.pointer (some ⟨p, 0, none⟩), .int .i64 x, .agg #[.int .i64 k, .int .i64 n, .string t]] w fun e w' => e = .returned (.int .i64 (sealE x k n t.size)) ∧ Below w.heap.size w w' := by
  have hsl := seal_any x k n t (w.alloc (.cells #[.int .i64 k, .int .i64 n, .string t] 60)) hx hk hn (by omega)
  generalize (⟨(sealB x k n t.data.toList).toArray⟩ : ByteArray) = sb at *
  generalize sealE x k n t.size = g at *
  have hg : (g != 0) = true := by simpa using hse
  clear hse
  go_enter Tryz.func75, Tryz.ntmps75
  go_wp2_with fail
  refine hsl.mono ?_
  rintro e w1 ⟨rfl, hb⟩
  clear hsl
  have HB := Lib.hid ((alloc_below (w := w) (.cells #[.int .i64 k, .int .i64 n, .string t] 60)).trans (hb.mono (by simp)))
  clear hb
  go_wp2_with fail
  go_ret
  exact ⟨rfl, HB.out⟩

set_option maxRecDepth 1000000 in
set_option maxHeartbeats 2000000 in
theorem gextend_bad (k n : Int) (t : ByteArray) (hx : IsInt s.pages) (hk : IsInt k) (hn : IsInt n) (hs : t.size ≤ 281474976710656) (hse : sealE s.pages k n t.size ≠ 0) (h : PgIs p pd pf b s F w) :
    Calls Tryz.prog 76 #[.pointer (some ⟨p, 0, none⟩), .agg #[.int .i64 k, .int .i64 n, .string t]] w fun e w' => e = .returned (.tuple #[.int .i64 0, .int .i64 (sealE s.pages k n t.size)]) ∧ Below w.heap.size w w' := by
  have hsl := seal_any s.pages k n t (w.alloc (.cells #[.int .i64 k, .int .i64 n, .string t] 60)) hx hk hn (by omega)
  generalize (⟨(sealB s.pages k n t.data.toList).toArray⟩ : ByteArray) = sb at *
  generalize sealE s.pages k n t.size = g at *
  have hg : (g != 0) = true := by simpa using hse
  obtain ⟨v, hp⟩ := (h.below (alloc_below (.cells #[.int .i64 k, .int .i64 n, .string t] 60))).cells
  have c7 := (pg_cells hp).2.2.2.1
  have hi := (h.lt p h.mem)
  clear hse h hp
  generalize s.pages = q at *
  go_enter Tryz.func76, Tryz.ntmps76
  go_wp2_with fail
  refine hsl.mono ?_
  rintro e w1 ⟨rfl, hb⟩
  clear hsl
  have HB := Lib.hid ((alloc_below (w := w) (.cells #[.int .i64 k, .int .i64 n, .string t] 60)).trans (hb.mono (by simp)))
  clear hb
  go_wp2_with fail
  go_ret2
  exact ⟨rfl, HB.out⟩


theorem grow_one {d : DevS} (hi : Idle d) {q : Int} (hq : q = d.pages.length) (hm : q < d.most) : growAE d (q + 1) = 0 ∧ growAS d (q + 1) = longer d 1 := by
  have e : growE d (q + 1) = 0 := by unfold growE; rw [if_neg (by omega), if_neg (by omega)]
  rw [(hi.grow _).1, (hi.grow _).2]
  refine ⟨e, ?_⟩
  unfold growS
  rw [if_pos e]
  congr 1
  omega
theorem grow_full {d : DevS} (hi : Idle d) {q : Int} (hq : q = d.pages.length) (hm : q = d.most) : growAE d (q + 1) = 10 ∧ growAS d (q + 1) = d := by
  have e : growE d (q + 1) = 10 := by unfold growE; rw [if_neg (by omega), if_pos (by omega)]
  rw [(hi.grow _).1, (hi.grow _).2]
  refine ⟨e, ?_⟩
  unfold growS
  rw [if_neg (by rw [e]; decide)]

set_option maxRecDepth 1000000 in
set_option maxHeartbeats 4000000 in
theorem gextend_grow (k n : Int) (t : ByteArray) (hlen : s.pages = s.dev.pages.length) (hm : s.pages < s.dev.most) (hid : Idle s.dev) (hx : IsInt s.pages) (hk : IsInt k) (hn : IsInt n) (hs : t.size ≤ 281474976710656) (hse : sealE s.pages k n t.size = 0) (hc : s.n < 1000000) (h : PgIs p pd pf b s F w) :
    Calls Tryz.prog 76 #[.pointer (some ⟨p, 0, none⟩), .agg #[.int .i64 k, .int .i64 n, .string t]] w fun e w' => e = .returned (.tuple #[.int .i64 s.pages, .int .i64 0]) ∧
      ∃ F', PgIs p pd pf b (keptS { s with pages := s.pages + 1, dev := longer s.dev 1 } s.pages ⟨1, k, n, t⟩) F' w' ∧ Goes F w F' w' := by
  have HC : s.pages = s.dev.pages.length ∧ s.dev.pages.length ≤ 3000 := ⟨hlen, h.devOK.few⟩
  have hgr := grow_one hid hlen hm
  have HGR := Lib.hid hgr
  clear hlen hgr hm hid
  have hb0 := alloc_below (w := w) (.cells #[.int .i64 k, .int .i64 n, .string t] 60)
  have hbx := Has.made w 60 #[.int .i64 k, .int .i64 n, .string t]
  have hsl := seal_any s.pages k n t (w.alloc (.cells #[.int .i64 k, .int .i64 n, .string t] 60)) hx hk hn (by omega)
  rw [hse] at hsl
  generalize (⟨(sealB s.pages k n t.data.toList).toArray⟩ : ByteArray) = sb at *
  obtain ⟨v, hp⟩ := (h.below hb0).cells
  have c7 := (pg_cells hp).2.2.2.1
  have hi := (h.lt p h.mem)
  have HX0 := Lib.hid h.lt
  have HX := Lib.hid (And.intro h (And.intro hb0 hbx))
  clear h hp hb0 hbx hse
  obtain ⟨q, hq⟩ : ∃ q, s.pages = q := ⟨_, rfl⟩
  obtain ⟨ln, hln⟩ : ∃ ln, s.dev.pages.length = ln := ⟨_, rfl⟩
  rw [hq] at c7 hsl hx HC
  rw [hln] at HC
  have HCC := Lib.hid HC
  clear HC
  have HQ := Lib.hid (And.intro hq hln)
  clear hq hln
  go_enter Tryz.func76, Tryz.ntmps76
  go_wp2_with fail
  refine hsl.mono ?_
  rintro e w1 ⟨rfl, hb⟩
  clear hsl c7 hi
  have hb1 := HX.out.2.2.below hb (by simp)
  have d0 := hb1.cell 0
  have d1 := hb1.cell 1
  have d2 := hb1.cell 2
  simp at d0 d1 d2
  have hbi := hb1.inside
  have hB : Below w.heap.size w w1 := HX.out.2.1.trans (hb.mono (by simp))
  have hp1 := HX.out.1.below hB
  obtain ⟨v1, hp⟩ := hp1.cells
  rw [HQ.out.1] at hp
  obtain ⟨c0, -, -, c7, -, -⟩ := pg_cells hp
  have f7 := hp.free 7
  have hle := plen_any hp1
  rw [HQ.out.2] at hle
  have hne : p ≠ w.heap.size := by have := HX.out.1.lt p HX.out.1.mem; omega
  have H1 := Lib.hid (And.intro hp1 (And.intro (goes_below hB (G := F)) hb1))
  clear hp hp1 hB hb hb1 HX
  have hle0 : decide ((ln : Int) ≤ q) = true := by have := HCC.out; simp; omega
  go_wp2_with fail
  refine hle.mono ?_
  rintro e w' ⟨rfl, rfl⟩
  have hw : IntKind.i64.wrap (q + 1) = q + 1 := IntWalk.i64_in _ (by have := HCC.out; unfold IsInt at hx; omega)
  obtain ⟨hp1, hg1, hb1⟩ := H1.out
  have hgw := pgrow_any (q + 1) hp1
  have hgr := HGR.out
  rw [HQ.out.1] at hgr
  rw [hgr.1, hgr.2] at hgw
  have HG1 := Lib.hid (And.intro hg1 (And.intro hb1 hp1.lt))
  have hnb : w.heap.size ∉ F := fun hF => by have := HX0.out _ hF; omega
  have HNB := Lib.hid hnb
  clear hle hp1 hg1 hb1 hgr H1 hnb
  go_wp2_with fail
  refine hgw.mono ?_
  rintro e w2 ⟨rfl, F2, hp2, hg2⟩
  have hb2 := HG1.out.2.1.kept hg2.1 HNB.out
  have g0 := hb2.cell 0
  have g1 := hb2.cell 1
  have g2 := hb2.cell 2
  simp at g0 g1 g2
  obtain ⟨v2, hpc⟩ := hp2.cells
  simp only [HQ.out.1] at hpc
  obtain ⟨k0, -, -, k7, -, -⟩ := pg_cells hpc
  have kf7 := hpc.free 7
  have hb2i := hb2.inside
  obtain ⟨hp3, hk3⟩ := hp2.setPages (q + 1)
  have hb3 : Has (w2.setCell ⟨p, 7, none⟩ (.int .i64 (q + 1))) w.heap.size 60 #[.int .i64 k, .int .i64 n, .string t] := hb2.past (fun e => hne e.symm) _
  have j0 := hb3.cell 0
  have j1 := hb3.cell 1
  have j2 := hb3.cell 2
  simp at j0 j1 j2
  have hkp := gkeep_any (s := { s with dev := longer s.dev 1, pages := q + 1 }) q k n t hx hs hc hp3
  have H2 := Lib.hid (And.intro (HG1.out.1.trans hg2) hk3)
  clear hgw hp2 hg2 hb2 hpc hp3 hk3 hb3 HG1 c0 c7 f7 d0 d1 d2
  go_wp2_with fail
  refine hkp.mono ?_
  rintro e w3 ⟨rfl, hp3, hk3⟩
  have H3 := Lib.hid (And.intro hp3 hk3)
  clear hkp hp3 hk3
  go_wp2_with fail
  go_ret2
  rw [HQ.out.1]
  exact ⟨rfl, F2, H3.out.1, H2.out.1.trans ⟨H2.out.2.trans H3.out.2, fun _ h => .inl h⟩⟩

set_option maxRecDepth 1000000 in
set_option maxHeartbeats 4000000 in
theorem gextend_full (k n : Int) (t : ByteArray) (hlen : s.pages = s.dev.pages.length) (hm : s.pages = s.dev.most) (hid : Idle s.dev) (hx : IsInt s.pages) (hk : IsInt k) (hn : IsInt n) (hs : t.size ≤ 281474976710656) (hse : sealE s.pages k n t.size = 0) (h : PgIs p pd pf b s F w) :
    Calls Tryz.prog 76 #[.pointer (some ⟨p, 0, none⟩), .agg #[.int .i64 k, .int .i64 n, .string t]] w fun e w' => e = .returned (.tuple #[.int .i64 0, .int .i64 10]) ∧ ∃ F', PgIs p pd pf b s F' w' ∧ Goes F w F' w' := by
  have HC : s.pages = s.dev.pages.length ∧ s.dev.pages.length ≤ 3000 := ⟨hlen, h.devOK.few⟩
  have hgr := grow_full hid hlen hm
  have HGR := Lib.hid hgr
  clear hlen hgr hm hid
  have hb0 := alloc_below (w := w) (.cells #[.int .i64 k, .int .i64 n, .string t] 60)
  have hbx := Has.made w 60 #[.int .i64 k, .int .i64 n, .string t]
  have hsl := seal_any s.pages k n t (w.alloc (.cells #[.int .i64 k, .int .i64 n, .string t] 60)) hx hk hn (by omega)
  rw [hse] at hsl
  generalize (⟨(sealB s.pages k n t.data.toList).toArray⟩ : ByteArray) = sb at *
  obtain ⟨v, hp⟩ := (h.below hb0).cells
  have c7 := (pg_cells hp).2.2.2.1
  have hi := (h.lt p h.mem)
  have HX := Lib.hid (And.intro h (And.intro hb0 hbx))
  clear h hp hb0 hbx hse
  obtain ⟨q, hq⟩ : ∃ q, s.pages = q := ⟨_, rfl⟩
  obtain ⟨ln, hln⟩ : ∃ ln, s.dev.pages.length = ln := ⟨_, rfl⟩
  rw [hq] at c7 hsl hx HC
  rw [hln] at HC
  have HCC := Lib.hid HC
  clear HC
  have HQ := Lib.hid (And.intro hq hln)
  clear hq hln
  go_enter Tryz.func76, Tryz.ntmps76
  go_wp2_with fail
  refine hsl.mono ?_
  rintro e w1 ⟨rfl, hb⟩
  clear hsl c7 hi
  have hb1 := HX.out.2.2.below hb (by simp)
  have d0 := hb1.cell 0
  have d1 := hb1.cell 1
  have d2 := hb1.cell 2
  simp at d0 d1 d2
  have hbi := hb1.inside
  have hB : Below w.heap.size w w1 := HX.out.2.1.trans (hb.mono (by simp))
  have hp1 := HX.out.1.below hB
  obtain ⟨v1, hp⟩ := hp1.cells
  rw [HQ.out.1] at hp
  obtain ⟨c0, -, -, c7, -, -⟩ := pg_cells hp
  have f7 := hp.free 7
  have hle := plen_any hp1
  rw [HQ.out.2] at hle
  have hne : p ≠ w.heap.size := by have := HX.out.1.lt p HX.out.1.mem; omega
  have H1 := Lib.hid (And.intro hp1 (And.intro (goes_below hB (G := F)) hb1))
  clear hp hp1 hB hb hb1 HX
  have hle0 : decide ((ln : Int) ≤ q) = true := by have := HCC.out; simp; omega
  go_wp2_with fail
  refine hle.mono ?_
  rintro e w' ⟨rfl, rfl⟩
  have hw : IntKind.i64.wrap (q + 1) = q + 1 := IntWalk.i64_in _ (by have := HCC.out; unfold IsInt at hx; omega)
  obtain ⟨hp1, hg1, hb1⟩ := H1.out
  have hgw := pgrow_any (q + 1) hp1
  have hgr := HGR.out
  rw [HQ.out.1] at hgr
  rw [hgr.1, hgr.2] at hgw
  have HG1 := Lib.hid hg1
  clear hle hp1 hg1 hb1 hgr H1
  go_wp2_with fail
  refine hgw.mono ?_
  rintro e w2 ⟨rfl, F2, hp2, hg2⟩
  have H2 := Lib.hid (And.intro hp2 (HG1.out.trans hg2))
  clear hgw hp2 hg2
  go_wp2_with fail
  go_ret2
  exact ⟨rfl, F2, H2.out⟩

end
end Go.Proofs.YtpoocbkligjgbaaGreatDoor

namespace Go.Proofs.YtpoocbkligjgbaaGreatDoor
open Go.RowKit Go.Sort

theorem idx_0 (x y : Addr) (w : World) : (Instr.index 146 (.agg #[.pointer (some x), .pointer (some y)]) (.int .i64 0)).run Tryz.prog w = .ok (.pointer (some x)) w := by kernel_rfl
theorem idx_1 (x y : Addr) (w : World) : (Instr.index 146 (.agg #[.pointer (some x), .pointer (some y)]) (.int .i64 1)).run Tryz.prog w = .ok (.pointer (some y)) w := by kernel_rfl

section
variable {p pd pf b : Nat} {s : PgS} {F : List Nat} {w : World}

set_option maxRecDepth 1000000 in
set_option maxHeartbeats 4000000 in
theorem gmake_spare {x : Int} {l : List Int} (k n : Int) (t : ByteArray) (hp : s.spare.Perm (x :: l)) (hm : ∀ y ∈ l, x ≤ y) (hx : IsInt x) (hk : IsInt k) (hn : IsInt n) (hs : t.size ≤ 281474976710656) (hse : sealE x k n t.size = 0) (hc : s.n < 1000000) (h : PgIs p pd pf b s F w) :
    Calls Tryz.prog 34 #[.pointer (some ⟨p, 0, none⟩), .agg #[.int .i64 k, .int .i64 n, .string t]] w fun e w' => e = .returned (.tuple #[.int .i64 x, .int .i64 0]) ∧
      ∃ F', PgIs p pd pf b (keptS { s with spare := l } x ⟨1, k, n, t⟩) F' w' ∧ Goes F w F' w' := by
  have hb0 := alloc_below (w := w) (.cells #[.int .i64 k, .int .i64 n, .string t] 60)
  have hbx := Has.made w 60 #[.int .i64 k, .int .i64 n, .string t]
  obtain ⟨v, hpc⟩ := (h.below hb0).cells
  obtain ⟨c0, c1, -, -, -, -⟩ := pg_cells hpc
  have hn0 := gnone_at p pd _ c0
  have hi := h.lt p h.mem
  have HX := Lib.hid (And.intro h (And.intro hb0 (And.intro hbx (And.intro hp hm))))
  clear h hpc hb0 hbx hp hm
  go_enter Tryz.func34, Tryz.ntmps34
  go_wp2_with (go_at_call 47; refine hn0.mono ?_; rintro e w' ⟨rfl, rfl⟩)
  go_quiet (fail)
  have hk0 : Kept [] w ((w.alloc (.cells #[.int .i64 k, .int .i64 n, .string t] 60)).drewN nq) := (Kept.of_below HX.out.2.1).drewN nq
  have hp1 := HX.out.1.kept hk0 (by simp)
  have hbx1 : Has ((w.alloc (.cells #[.int .i64 k, .int .i64 n, .string t] 60)).drewN nq) w.heap.size 60 #[.int .i64 k, .int .i64 n, .string t] := HX.out.2.2.1
  generalize (w.alloc (.cells #[.int .i64 k, .int .i64 n, .string t] 60)).drewN nq = w1 at *
  have htk := stake_some hp1 HX.out.2.2.2.1 HX.out.2.2.2.2
  have hnF : w.heap.size ∉ F := fun hF => by have := HX.out.1.lt _ hF; omega
  have HN := Lib.hid hnF
  have H1 := Lib.hid (And.intro hk0 hbx1)
  clear hk0 hp1 hbx1 c0 c1 hn0 hi HX hnF
  go_wp2_with fail
  have i0 := idx_0 ⟨p, 2, none⟩ ⟨pf, 0, none⟩
  have i1 := idx_1 ⟨p, 2, none⟩ ⟨pf, 0, none⟩
  refine wp_loop_rounds 3 ?_
  rw [rounds_succ]
  go_wp2_with fail
  refine htk.mono ?_
  rintro e w2 ⟨rfl, F2, hp2, hg2⟩
  have hbx2 := H1.out.2.kept hg2.1 HN.out
  have d0 := hbx2.cell 0
  have d1 := hbx2.cell 1
  have d2 := hbx2.cell 2
  simp at d0 d1 d2
  have hbi := hbx2.inside
  have hst := gset_ok (s := { s with spare := l }) x k n t hx hk hn hs hse hc hp2
  have hk1 : Goes F w F w1 := ⟨H1.out.1.mono (fun _ h => absurd h (by simp)), fun _ h => .inl h⟩
  have H2 := Lib.hid (hk1.trans hg2)
  clear htk hp2 hg2 hbx2 hk1 H1
  go_wp2_with fail
  refine hst.mono ?_
  rintro e w3 ⟨rfl, hp3, hk3⟩
  have H3 := Lib.hid (And.intro hp3 hk3)
  clear hst hp3 hk3 d0 d1 d2
  go_wp2_with fail
  go_ret2
  exact ⟨rfl, F2, H3.out.1, H2.out.trans ⟨H3.out.2, fun _ h => .inl h⟩⟩
set_option maxRecDepth 1000000 in
set_option maxHeartbeats 4000000 in
theorem gmake_spare_bad {x : Int} {l : List Int} (k n : Int) (t : ByteArray) (hp : s.spare.Perm (x :: l)) (hm : ∀ y ∈ l, x ≤ y) (hx : IsInt x) (hk : IsInt k) (hn : IsInt n) (hs : t.size ≤ 281474976710656) (hse : sealE x k n t.size ≠ 0) (hfew : s.spare.length ≤ 1000000) (h : PgIs p pd pf b s F w) :
    Calls Tryz.prog 34 #[.pointer (some ⟨p, 0, none⟩), .agg #[.int .i64 k, .int .i64 n, .string t]] w fun e w' => e = .returned (.tuple #[.int .i64 0, .int .i64 (sealE x k n t.size)]) ∧ ∃ F', PgIs p pd pf b s F' w' ∧ Goes F w F' w' := by
  obtain ⟨g, hgg⟩ : ∃ g, sealE x k n t.size = g := ⟨_, rfl⟩
  rw [hgg] at hse ⊢
  have HGG := Lib.hid hgg
  clear hgg
  have hb0 := alloc_below (w := w) (.cells #[.int .i64 k, .int .i64 n, .string t] 60)
  have hbx := Has.made w 60 #[.int .i64 k, .int .i64 n, .string t]
  obtain ⟨v, hpc⟩ := (h.below hb0).cells
  obtain ⟨c0, c1, -, -, -, -⟩ := pg_cells hpc
  have hn0 := gnone_at p pd _ c0
  have hi := h.lt p h.mem
  have HX := Lib.hid (And.intro h (And.intro hb0 (And.intro hbx (And.intro hp hm))))
  clear h hpc hb0 hbx hp hm
  go_enter Tryz.func34, Tryz.ntmps34
  go_wp2_with (go_at_call 47; refine hn0.mono ?_; rintro e w' ⟨rfl, rfl⟩)
  go_quiet (fail)
  have hk0 : Kept [] w ((w.alloc (.cells #[.int .i64 k, .int .i64 n, .string t] 60)).drewN nq) := (Kept.of_below HX.out.2.1).drewN nq
  have hp1 := HX.out.1.kept hk0 (by simp)
  have hbx1 : Has ((w.alloc (.cells #[.int .i64 k, .int .i64 n, .string t] 60)).drewN nq) w.heap.size 60 #[.int .i64 k, .int .i64 n, .string t] := HX.out.2.2.1
  generalize (w.alloc (.cells #[.int .i64 k, .int .i64 n, .string t] 60)).drewN nq = w1 at *
  have htk := stake_some hp1 HX.out.2.2.2.1 HX.out.2.2.2.2
  have HL := Lib.hid (show l.length + 1 ≤ 1000000 by have := HX.out.2.2.2.1.length_eq; simp at this; omega)
  have HPM := Lib.hid HX.out.2.2.2.1
  have hnF : w.heap.size ∉ F := fun hF => by have := HX.out.1.lt _ hF; omega
  have HN := Lib.hid hnF
  have H1 := Lib.hid (And.intro hk0 hbx1)
  clear hk0 hp1 hbx1 c0 c1 hn0 hi HX hnF hfew
  go_wp2_with fail
  have i0 := idx_0 ⟨p, 2, none⟩ ⟨pf, 0, none⟩
  have i1 := idx_1 ⟨p, 2, none⟩ ⟨pf, 0, none⟩
  refine wp_loop_rounds 3 ?_
  rw [rounds_succ]
  go_wp2_with fail
  refine htk.mono ?_
  rintro e w2 ⟨rfl, F2, hp2, hg2⟩
  have hbx2 := H1.out.2.kept hg2.1 HN.out
  have d0 := hbx2.cell 0
  have d1 := hbx2.cell 1
  have d2 := hbx2.cell 2
  simp at d0 d1 d2
  have hbi := hbx2.inside
  have hst := gset_bad (p := p) (w := w2) x k n t hx hk hn hs (by rw [HGG.out]; exact hse)
  rw [HGG.out] at hst
  have hg : (g != 0) = true := by simpa using hse
  have hk1 : Goes F w F w1 := ⟨H1.out.1.mono (fun _ h => absurd h (by simp)), fun _ h => .inl h⟩
  have H2 := Lib.hid (hk1.trans hg2)
  have HP := Lib.hid hp2
  clear htk hp2 hg2 hbx2 hk1 H1 hse
  go_wp2_with fail
  refine hst.mono ?_
  rintro e w3 ⟨rfl, hb3⟩
  have hbk := sback_one (s := { s with spare := l }) x (HP.out.below hb3) (by have := HL.out; show l.length < 1000000; omega)
  have H3 := Lib.hid (goes_below hb3 (G := F2))
  clear hst hb3 d0 d1 d2
  go_wp2_with fail
  refine hbk.mono ?_
  rintro e w4 ⟨rfl, F4, hp4, hg4⟩
  have hp5 : PgIs p pd pf b s F4 w4 := hp4.perm (List.Perm.refl _) (List.Perm.refl _) (List.Perm.refl _) HPM.out.symm
  have H4 := Lib.hid (And.intro hp5 (H2.out.trans (H3.out.trans hg4)))
  clear hbk hp4 hg4 hp5
  go_wp2_with fail
  go_ret2
  exact ⟨rfl, F4, H4.out⟩



set_option maxRecDepth 1000000 in
set_option maxHeartbeats 4000000 in
theorem gmake_ext (k n : Int) (t : ByteArray) {id r : Int} {s' : PgS} (hsp : s.spare = []) (hl : s.l = []) (h : PgIs p pd pf b s F w)
    (hext : ∀ w1, PgIs p pd pf b s F w1 → Calls Tryz.prog 76 #[.pointer (some ⟨p, 0, none⟩), .agg #[.int .i64 k, .int .i64 n, .string t]] w1 fun e w' => e = .returned (.tuple #[.int .i64 id, .int .i64 r]) ∧ ∃ F', PgIs p pd pf b s' F' w' ∧ Goes F w1 F' w') :
    Calls Tryz.prog 34 #[.pointer (some ⟨p, 0, none⟩), .agg #[.int .i64 k, .int .i64 n, .string t]] w fun e w' => e = .returned (.tuple #[.int .i64 id, .int .i64 r]) ∧ ∃ F', PgIs p pd pf b s' F' w' ∧ Goes F w F' w' := by
  have hb0 := alloc_below (w := w) (.cells #[.int .i64 k, .int .i64 n, .string t] 60)
  have hbx := Has.made w 60 #[.int .i64 k, .int .i64 n, .string t]
  obtain ⟨v, hpc⟩ := (h.below hb0).cells
  obtain ⟨c0, c1, -, -, -, -⟩ := pg_cells hpc
  have hn0 := gnone_at p pd _ c0
  have hi := h.lt p h.mem
  have HX := Lib.hid (And.intro h (And.intro hb0 (And.intro hbx (And.intro hsp hl))))
  clear h hpc hb0 hbx hsp hl
  go_enter Tryz.func34, Tryz.ntmps34
  go_wp2_with (go_at_call 47; refine hn0.mono ?_; rintro e w' ⟨rfl, rfl⟩)
  go_quiet (fail)
  have hk0 : Kept [] w ((w.alloc (.cells #[.int .i64 k, .int .i64 n, .string t] 60)).drewN nq) := (Kept.of_below HX.out.2.1).drewN nq
  have hp1 := HX.out.1.kept hk0 (by simp)
  have hbx1 : Has ((w.alloc (.cells #[.int .i64 k, .int .i64 n, .string t] 60)).drewN nq) w.heap.size 60 #[.int .i64 k, .int .i64 n, .string t] := HX.out.2.2.1
  generalize (w.alloc (.cells #[.int .i64 k, .int .i64 n, .string t] 60)).drewN nq = w1 at *
  have htn := stake_none hp1 HX.out.2.2.2.1
  have htk := ptake_none hp1 HX.out.2.2.2.2
  have hex := hext _ hp1
  have hk1 : Goes F w F w1 := ⟨hk0.mono (fun _ h => absurd h (by simp)), fun _ h => .inl h⟩
  have HG := Lib.hid hk1
  have d0 := hbx1.cell 0
  have d1 := hbx1.cell 1
  have d2 := hbx1.cell 2
  simp at d0 d1 d2
  have hbi := hbx1.inside
  clear hk0 hp1 hbx1 c0 c1 hn0 hi HX hext hk1
  go_wp2_with fail
  have i0 := idx_0 ⟨p, 2, none⟩ ⟨pf, 0, none⟩
  have i1 := idx_1 ⟨p, 2, none⟩ ⟨pf, 0, none⟩
  refine wp_loop_rounds 3 ?_
  rw [rounds_succ]
  go_wp2_with fail
  refine htn.mono ?_
  rintro e wq ⟨rfl, hwq⟩
  have hwq := hwq.symm
  subst hwq
  clear htn
  go_wp2_with fail
  rw [rounds_succ]
  go_wp2_with fail
  refine htk.mono ?_
  rintro e wq ⟨rfl, hwq⟩
  have hwq := hwq.symm
  subst hwq
  clear htk
  go_wp2_with fail
  rw [rounds_succ]
  go_wp2_with fail
  refine hex.mono ?_
  rintro e w2 ⟨rfl, F2, hp2, hg2⟩
  have H2 := Lib.hid (And.intro hp2 (HG.out.trans hg2))
  clear hex hp2 hg2
  go_wp2_with fail
  go_ret2
  exact ⟨rfl, F2, H2.out⟩

end
end Go.Proofs.YtpoocbkligjgbaaGreatDoor

namespace Go.Proofs.YtpoocbkligjgbaaGreatDoor
open Go.RowKit Go.Sort

section
variable {p pd pf b : Nat} {s : PgS} {F : List Nat} {w : World}

def chg0 (f : Int) : Chg := ⟨f, 0, 0, ⟨#[]⟩⟩



set_option maxRecDepth 1000000 in
set_option maxHeartbeats 4000000 in
theorem gdrop_beyond (x : Int) (h0 : 2 ≤ x) (h1 : x < s.pages) (hf : (s.H x).fate = 1) (hs : (s.H x).body.size ≤ 281474976710656) (hth : s.there ≤ x) (hx : IsInt x) (hc : s.n < 1000000) (hfew : s.spare.length < 1000000) (h : PgIs p pd pf b s F w) :
    Calls Tryz.prog 119 #[.pointer (some ⟨p, 0, none⟩), .int .i64 x] w fun e w' => e = .returned (.int .i64 0) ∧ ∃ F', PgIs p pd pf b { keptS s x (chg0 3) with spare := x :: s.spare } F' w' ∧ Goes F w F' w' := by
  have hrd := gread_made x h0 h1 hx hf hs h
  have HX := Lib.hid h
  obtain ⟨k, hk⟩ : ∃ k, (s.H x).kind = k := ⟨_, rfl⟩
  obtain ⟨n, hn⟩ : ∃ n, (s.H x).next = n := ⟨_, rfl⟩
  obtain ⟨t, ht⟩ : ∃ t, (s.H x).body = t := ⟨_, rfl⟩
  rw [hk, hn, ht] at hrd
  clear h hk hn ht hs
  go_enter Tryz.func119, Tryz.ntmps119
  go_wp2_with fail
  refine hrd.mono ?_
  rintro e w1 ⟨rfl, hb⟩
  have hp1 := HX.out.below hb
  have hb1 := alloc_below (w := w1) (.cells #[.int .i64 k, .int .i64 n, .string t] 60)
  have hp2 := hp1.below hb1
  have HB := Lib.hid ((goes_below hb (G := F)).trans (goes_below hb1))
  clear hrd hb hp1 hb1 HX
  have how := gown_any x hx hp2
  rw [decide_eq_true hf] at how
  obtain ⟨v, hpc⟩ := hp2.cells
  obtain ⟨-, -, -, -, -, c9⟩ := pg_cells hpc
  clear hf hpc
  go_wp2_with fail
  refine how.mono ?_
  rintro e w' ⟨rfl, rfl⟩
  clear how
  have hth' : decide (x < s.there) = false := by simpa using hth
  go_wp2_with (at_mapUpdate; refine wpList_put _ rfl _ _ _ rfl rfl hp2.here hc x rfl hx (chg0 3) rfl ?_; intro w3 hh hk3
               obtain ⟨hp3, hk4⟩ := hp2.setHere hh hk3
               obtain ⟨v3, hpc3⟩ := hp3.cells
               obtain ⟨k0, k1, k6, k7, k8, k9⟩ := pg_cells hpc3
               have hbk := sback_one (s := keptS s x (chg0 3)) x hp3 hfew
               have H3 := Lib.hid hk4
               clear hh hk3 hp3 hk4 hpc3 hp2)
  refine hbk.mono ?_
  rintro e w4 ⟨rfl, F4, hp4, hg4⟩
  have H4 := Lib.hid (And.intro hp4 hg4)
  clear hbk hp4 hg4 k0 k1 k6 k7 k8 k9
  go_wp2_with fail
  go_ret
  exact ⟨rfl, F4, H4.out.1, HB.out.trans (Goes.trans ⟨H3.out, fun _ h => .inl h⟩ H4.out.2)⟩
end
end Go.Proofs.YtpoocbkligjgbaaGreatDoor
