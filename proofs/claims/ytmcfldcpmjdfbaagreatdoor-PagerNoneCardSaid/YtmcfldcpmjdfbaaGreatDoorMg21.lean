/-
  A pager's Make. A pager's Drop; what Make and Drop come to, in one word each.
-/
import Derived.Test.YtmcfldcpmjdfbaaGreatDoorMg20
import Derived.Deep.QuietTactic
import Derived.BigQuiet
namespace Go.Proofs.YtmcfldcpmjdfbaaGreatDoor
open Go.RowKit Go.Sort

theorem idx_0 (x y : Addr) (w : World) : (Instr.index 79 (.agg #[.pointer (some x), .pointer (some y)]) (.int .i64 0)).run Tryz.prog w = .ok (.pointer (some x)) w := by kernel_rfl
theorem idx_1 (x y : Addr) (w : World) : (Instr.index 79 (.agg #[.pointer (some x), .pointer (some y)]) (.int .i64 1)).run Tryz.prog w = .ok (.pointer (some y)) w := by kernel_rfl

section
variable {p pd pf b : Nat} {s : PgS} {F : List Nat} {w : World}

set_option maxRecDepth 1000000 in
set_option maxHeartbeats 4000000 in
theorem gmake_spare {x : Int} {l : List Int} (k n : Int) (t : ByteArray) (hp : s.spare.Perm (x :: l)) (hm : ∀ y ∈ l, x ≤ y) (hx : IsInt x) (hk : IsInt k) (hn : IsInt n) (hs : t.size ≤ 281474976710656) (hse : sealE x k n t.size = 0) (hc : s.n < 1000000) (h : PgIs p pd pf b s F w) :
    Calls Tryz.prog 8 #[.pointer (some ⟨p, 0, none⟩), .agg #[.int .i64 k, .int .i64 n, .string t]] w fun e w' => e = .returned (.tuple #[.int .i64 x, .int .i64 0]) ∧
      ∃ F', PgIs p pd pf b (keptS { s with spare := l } x ⟨1, k, n, t⟩) F' w' ∧ Goes F w F' w' := by
  have hb0 := alloc_below (w := w) (.cells #[.int .i64 k, .int .i64 n, .string t] 23)
  have hbx := Has.made w 23 #[.int .i64 k, .int .i64 n, .string t]
  obtain ⟨v, hpc⟩ := (h.below hb0).cells
  obtain ⟨c0, c1, -, -, -, -⟩ := pg_cells hpc
  have hn0 := gnone_at p pd _ c0
  have hi := h.lt p h.mem
  have HX := Lib.hid (And.intro h (And.intro hb0 (And.intro hbx (And.intro hp hm))))
  clear h hpc hb0 hbx hp hm
  go_enter Tryz.func8, Tryz.ntmps8
  go_wp2_with (go_at_call 34; refine hn0.mono ?_; rintro e w' ⟨rfl, rfl⟩)
  go_quiet (fail)
  have hk0 : Kept [] w ((w.alloc (.cells #[.int .i64 k, .int .i64 n, .string t] 23)).drewN nq) := (Kept.of_below HX.out.2.1).drewN nq
  have hp1 := HX.out.1.kept hk0 (by simp)
  have hbx1 : Has ((w.alloc (.cells #[.int .i64 k, .int .i64 n, .string t] 23)).drewN nq) w.heap.size 23 #[.int .i64 k, .int .i64 n, .string t] := HX.out.2.2.1
  generalize (w.alloc (.cells #[.int .i64 k, .int .i64 n, .string t] 23)).drewN nq = w1 at *
  have htk := stake_some hp1 HX.out.2.2.2.1 HX.out.2.2.2.2
  have hnF : w.heap.size ∉ F := fun hF => by have := HX.out.1.lt _ hF; omega
  have HN := Lib.hid hnF
  have H1 := Lib.hid (And.intro hk0 hbx1)
  clear hk0 hp1 hbx1 c0 c1 hn0 hi HX hnF
  go_wp2_with fail
  have i0 := idx_0 ⟨p, 2, none⟩ ⟨pf, 0, none⟩
  have i1 := idx_1 ⟨p, 2, none⟩ ⟨pf, 0, none⟩
  refine wp_loop_rounds 3 ?_
  rw [rounds_succ]
  go_wp2_with fail
  refine htk.mono ?_
  rintro e w2 ⟨rfl, F2, hp2, hg2⟩
  have hbx2 := H1.out.2.kept hg2.1 HN.out
  have d0 := hbx2.cell 0
  have d1 := hbx2.cell 1
  have d2 := hbx2.cell 2
  simp at d0 d1 d2
  have hbi := hbx2.inside
  have hst := gset_ok (s := { s with spare := l }) x k n t hx hk hn hs hse hc hp2
  have hk1 : Goes F w F w1 := ⟨H1.out.1.mono (fun _ h => absurd h (by simp)), fun _ h => .inl h⟩
  have H2 := Lib.hid (hk1.trans hg2)
  clear htk hp2 hg2 hbx2 hk1 H1
  go_wp2_with fail
  refine hst.mono ?_
  rintro e w3 ⟨rfl, hp3, hk3⟩
  have H3 := Lib.hid (And.intro hp3 hk3)
  clear hst hp3 hk3 d0 d1 d2
  go_wp2_with fail
  go_ret2
  exact ⟨rfl, F2, H3.out.1, H2.out.trans ⟨H3.out.2, fun _ h => .inl h⟩⟩
set_option maxRecDepth 1000000 in
set_option maxHeartbeats 4000000 in
theorem gmake_spare_bad {x : Int} {l : List Int} (k n : Int) (t : ByteArray) (hp : s.spare.Perm (x :: l)) (hm : ∀ y ∈ l, x ≤ y) (hx : IsInt x) (hk : IsInt k) (hn : IsInt n) (hs : t.size ≤ 281474976710656) (hse : sealE x k n t.size ≠ 0) (hfew : s.spare.length ≤ 1000000) (h : PgIs p pd pf b s F w) :
    Calls Tryz.prog 8 #[.pointer (some ⟨p, 0, none⟩), .agg #[.int .i64 k, .int .i64 n, .string t]] w fun e w' => e = .returned (.tuple #[.int .i64 0, .int .i64 (sealE x k n t.size)]) ∧ ∃ F', PgIs p pd pf b s F' w' ∧ Goes F w F' w' := by
  obtain ⟨g, hgg⟩ : ∃ g, sealE x k n t.size = g := ⟨_, rfl⟩
  rw [hgg] at hse ⊢
  have HGG := Lib.hid hgg
  clear hgg
  have hb0 := alloc_below (w := w) (.cells #[.int .i64 k, .int .i64 n, .string t] 23)
  have hbx := Has.made w 23 #[.int .i64 k, .int .i64 n, .string t]
  obtain ⟨v, hpc⟩ := (h.below hb0).cells
  obtain ⟨c0, c1, -, -, -, -⟩ := pg_cells hpc
  have hn0 := gnone_at p pd _ c0
  have hi := h.lt p h.mem
  have HX := Lib.hid (And.intro h (And.intro hb0 (And.intro hbx (And.intro hp hm))))
  clear h hpc hb0 hbx hp hm
  go_enter Tryz.func8, Tryz.ntmps8
  go_wp2_with (go_at_call 34; refine hn0.mono ?_; rintro e w' ⟨rfl, rfl⟩)
  go_quiet (fail)
  have hk0 : Kept [] w ((w.alloc (.cells #[.int .i64 k, .int .i64 n, .string t] 23)).drewN nq) := (Kept.of_below HX.out.2.1).drewN nq
  have hp1 := HX.out.1.kept hk0 (by simp)
  have hbx1 : Has ((w.alloc (.cells #[.int .i64 k, .int .i64 n, .string t] 23)).drewN nq) w.heap.size 23 #[.int .i64 k, .int .i64 n, .string t] := HX.out.2.2.1
  generalize (w.alloc (.cells #[.int .i64 k, .int .i64 n, .string t] 23)).drewN nq = w1 at *
  have htk := stake_some hp1 HX.out.2.2.2.1 HX.out.2.2.2.2
  have HL := Lib.hid (show l.length + 1 ≤ 1000000 by have := HX.out.2.2.2.1.length_eq; simp at this; omega)
  have HPM := Lib.hid HX.out.2.2.2.1
  have hnF : w.heap.size ∉ F := fun hF => by have := HX.out.1.lt _ hF; omega
  have HN := Lib.hid hnF
  have H1 := Lib.hid (And.intro hk0 hbx1)
  clear hk0 hp1 hbx1 c0 c1 hn0 hi HX hnF hfew
  go_wp2_with fail
  have i0 := idx_0 ⟨p, 2, none⟩ ⟨pf, 0, none⟩
  have i1 := idx_1 ⟨p, 2, none⟩ ⟨pf, 0, none⟩
  refine wp_loop_rounds 3 ?_
  rw [rounds_succ]
  go_wp2_with fail
  refine htk.mono ?_
  rintro e w2 ⟨rfl, F2, hp2, hg2⟩
  have hbx2 := H1.out.2.kept hg2.1 HN.out
  have d0 := hbx2.cell 0
  have d1 := hbx2.cell 1
  have d2 := hbx2.cell 2
  simp at d0 d1 d2
  have hbi := hbx2.inside
  have hst := gset_bad (p := p) (w := w2) x k n t hx hk hn hs (by rw [HGG.out]; exact hse)
  rw [HGG.out] at hst
  have hg : (g != 0) = true := by simpa using hse
  have hk1 : Goes F w F w1 := ⟨H1.out.1.mono (fun _ h => absurd h (by simp)), fun _ h => .inl h⟩
  have H2 := Lib.hid (hk1.trans hg2)
  have HP := Lib.hid hp2
  clear htk hp2 hg2 hbx2 hk1 H1 hse
  go_wp2_with fail
  refine hst.mono ?_
  rintro e w3 ⟨rfl, hb3⟩
  have hbk := sback_one (s := { s with spare := l }) x (HP.out.below hb3) (by have := HL.out; show l.length < 1000000; omega)
  have H3 := Lib.hid (goes_below hb3 (G := F2))
  clear hst hb3 d0 d1 d2
  go_wp2_with fail
  refine hbk.mono ?_
  rintro e w4 ⟨rfl, F4, hp4, hg4⟩
  have hp5 : PgIs p pd pf b s F4 w4 := hp4.perm (List.Perm.refl _) (List.Perm.refl _) (List.Perm.refl _) HPM.out.symm
  have H4 := Lib.hid (And.intro hp5 (H2.out.trans (H3.out.trans hg4)))
  clear hbk hp4 hg4 hp5
  go_wp2_with fail
  go_ret2
  exact ⟨rfl, F4, H4.out⟩

set_option maxRecDepth 1000000 in
set_option maxHeartbeats 4000000 in
theorem gmake_free {x : Int} {l : List Int} (k n : Int) (t : ByteArray) (hsp : s.spare = []) (hp : s.l.Perm (x :: l)) (hm : ∀ y ∈ l, x ≤ y) (hx : IsInt x) (hk : IsInt k) (hn : IsInt n) (hs : t.size ≤ 281474976710656) (hse : sealE x k n t.size = 0) (hc : s.n < 1000000) (h : PgIs p pd pf b s F w) :
    Calls Tryz.prog 8 #[.pointer (some ⟨p, 0, none⟩), .agg #[.int .i64 k, .int .i64 n, .string t]] w fun e w' => e = .returned (.tuple #[.int .i64 x, .int .i64 0]) ∧
      ∃ F', PgIs p pd pf b (keptS { s with l := l } x ⟨1, k, n, t⟩) F' w' ∧ Goes F w F' w' := by
  have hb0 := alloc_below (w := w) (.cells #[.int .i64 k, .int .i64 n, .string t] 23)
  have hbx := Has.made w 23 #[.int .i64 k, .int .i64 n, .string t]
  obtain ⟨v, hpc⟩ := (h.below hb0).cells
  obtain ⟨c0, c1, -, -, -, -⟩ := pg_cells hpc
  have hn0 := gnone_at p pd _ c0
  have hi := h.lt p h.mem
  have HX := Lib.hid (And.intro h (And.intro hb0 (And.intro hbx (And.intro hsp (And.intro hp hm)))))
  clear h hpc hb0 hbx hp hm hsp
  go_enter Tryz.func8, Tryz.ntmps8
  go_wp2_with (go_at_call 34; refine hn0.mono ?_; rintro e w' ⟨rfl, rfl⟩)
  go_quiet (fail)
  have hk0 : Kept [] w ((w.alloc (.cells #[.int .i64 k, .int .i64 n, .string t] 23)).drewN nq) := (Kept.of_below HX.out.2.1).drewN nq
  have hp1 := HX.out.1.kept hk0 (by simp)
  have hbx1 : Has ((w.alloc (.cells #[.int .i64 k, .int .i64 n, .string t] 23)).drewN nq) w.heap.size 23 #[.int .i64 k, .int .i64 n, .string t] := HX.out.2.2.1
  generalize (w.alloc (.cells #[.int .i64 k, .int .i64 n, .string t] 23)).drewN nq = w1 at *
  have htn := stake_none hp1 HX.out.2.2.2.1
  have htk := ptake_some hp1 HX.out.2.2.2.2.1 HX.out.2.2.2.2.2
  have hnF : w.heap.size ∉ F := fun hF => by have := HX.out.1.lt _ hF; omega
  have HN := Lib.hid hnF
  have H1 := Lib.hid (And.intro hk0 hbx1)
  clear hk0 hp1 hbx1 c0 c1 hn0 hi HX hnF
  go_wp2_with fail
  have i0 := idx_0 ⟨p, 2, none⟩ ⟨pf, 0, none⟩
  have i1 := idx_1 ⟨p, 2, none⟩ ⟨pf, 0, none⟩
  refine wp_loop_rounds 3 ?_
  rw [rounds_succ]
  go_wp2_with fail
  refine htn.mono ?_
  rintro e wq ⟨rfl, hwq⟩
  have hwq := hwq.symm
  subst hwq
  clear htn
  go_wp2_with fail
  rw [rounds_succ]
  go_wp2_with fail
  refine htk.mono ?_
  rintro e w2 ⟨rfl, F2, hp2, hg2⟩
  have hbx2 := H1.out.2.kept hg2.1 HN.out
  have d0 := hbx2.cell 0
  have d1 := hbx2.cell 1
  have d2 := hbx2.cell 2
  simp at d0 d1 d2
  have hbi := hbx2.inside
  have hst := gset_ok (s := { s with l := l }) x k n t hx hk hn hs hse hc hp2
  have hk1 : Goes F w F w1 := ⟨H1.out.1.mono (fun _ h => absurd h (by simp)), fun _ h => .inl h⟩
  have H2 := Lib.hid (hk1.trans hg2)
  clear htk hp2 hg2 hbx2 hk1 H1
  go_wp2_with fail
  refine hst.mono ?_
  rintro e w3 ⟨rfl, hp3, hk3⟩
  have H3 := Lib.hid (And.intro hp3 hk3)
  clear hst hp3 hk3 d0 d1 d2
  go_wp2_with fail
  go_ret2
  exact ⟨rfl, F2, H3.out.1, H2.out.trans ⟨H3.out.2, fun _ h => .inl h⟩⟩

set_option maxRecDepth 1000000 in
set_option maxHeartbeats 4000000 in
theorem gmake_free_bad {x : Int} {l : List Int} (k n : Int) (t : ByteArray) (hsp : s.spare = []) (hp : s.l.Perm (x :: l)) (hm : ∀ y ∈ l, x ≤ y) (hx : IsInt x) (hk : IsInt k) (hn : IsInt n) (hs : t.size ≤ 281474976710656) (hse : sealE x k n t.size ≠ 0) (hfew : s.l.length ≤ 1000000) (h : PgIs p pd pf b s F w) :
    Calls Tryz.prog 8 #[.pointer (some ⟨p, 0, none⟩), .agg #[.int .i64 k, .int .i64 n, .string t]] w fun e w' => e = .returned (.tuple #[.int .i64 0, .int .i64 (sealE x k n t.size)]) ∧ ∃ F', PgIs p pd pf b s F' w' ∧ Goes F w F' w' := by
  obtain ⟨g, hgg⟩ : ∃ g, sealE x k n t.size = g := ⟨_, rfl⟩
  rw [hgg] at hse ⊢
  have HGG := Lib.hid hgg
  clear hgg
  have hb0 := alloc_below (w := w) (.cells #[.int .i64 k, .int .i64 n, .string t] 23)
  have hbx := Has.made w 23 #[.int .i64 k, .int .i64 n, .string t]
  obtain ⟨v, hpc⟩ := (h.below hb0).cells
  obtain ⟨c0, c1, -, -, -, -⟩ := pg_cells hpc
  have hn0 := gnone_at p pd _ c0
  have hi := h.lt p h.mem
  have HX := Lib.hid (And.intro h (And.intro hb0 (And.intro hbx (And.intro hsp (And.intro hp hm)))))
  clear h hpc hb0 hbx hp hm hsp
  go_enter Tryz.func8, Tryz.ntmps8
  go_wp2_with (go_at_call 34; refine hn0.mono ?_; rintro e w' ⟨rfl, rfl⟩)
  go_quiet (fail)
  have hk0 : Kept [] w ((w.alloc (.cells #[.int .i64 k, .int .i64 n, .string t] 23)).drewN nq) := (Kept.of_below HX.out.2.1).drewN nq
  have hp1 := HX.out.1.kept hk0 (by simp)
  have hbx1 : Has ((w.alloc (.cells #[.int .i64 k, .int .i64 n, .string t] 23)).drewN nq) w.heap.size 23 #[.int .i64 k, .int .i64 n, .string t] := HX.out.2.2.1
  generalize (w.alloc (.cells #[.int .i64 k, .int .i64 n, .string t] 23)).drewN nq = w1 at *
  have htn := stake_none hp1 HX.out.2.2.2.1
  have htk := ptake_some hp1 HX.out.2.2.2.2.1 HX.out.2.2.2.2.2
  have HL := Lib.hid (show l.length + 1 ≤ 1000000 by have := HX.out.2.2.2.2.1.length_eq; simp at this; omega)
  have HPM := Lib.hid HX.out.2.2.2.2.1
  have hnF : w.heap.size ∉ F := fun hF => by have := HX.out.1.lt _ hF; omega
  have HN := Lib.hid hnF
  have H1 := Lib.hid (And.intro hk0 hbx1)
  clear hk0 hp1 hbx1 c0 c1 hn0 hi HX hnF hfew
  go_wp2_with fail
  have i0 := idx_0 ⟨p, 2, none⟩ ⟨pf, 0, none⟩
  have i1 := idx_1 ⟨p, 2, none⟩ ⟨pf, 0, none⟩
  refine wp_loop_rounds 3 ?_
  rw [rounds_succ]
  go_wp2_with fail
  refine htn.mono ?_
  rintro e wq ⟨rfl, hwq⟩
  have hwq := hwq.symm
  subst hwq
  clear htn
  go_wp2_with fail
  rw [rounds_succ]
  go_wp2_with fail
  refine htk.mono ?_
  rintro e w2 ⟨rfl, F2, hp2, hg2⟩
  have hbx2 := H1.out.2.kept hg2.1 HN.out
  have d0 := hbx2.cell 0
  have d1 := hbx2.cell 1
  have d2 := hbx2.cell 2
  simp at d0 d1 d2
  have hbi := hbx2.inside
  have hst := gset_bad (p := p) (w := w2) x k n t hx hk hn hs (by rw [HGG.out]; exact hse)
  rw [HGG.out] at hst
  have hg : (g != 0) = true := by simpa using hse
  have hk1 : Goes F w F w1 := ⟨H1.out.1.mono (fun _ h => absurd h (by simp)), fun _ h => .inl h⟩
  have H2 := Lib.hid (hk1.trans hg2)
  have HP := Lib.hid hp2
  clear htk hp2 hg2 hbx2 hk1 H1 hse
  go_wp2_with fail
  refine hst.mono ?_
  rintro e w3 ⟨rfl, hb3⟩
  have hbk := pback_one (s := { s with l := l }) x (HP.out.below hb3) (by have := HL.out; show l.length < 1000000; omega)
  have H3 := Lib.hid (goes_below hb3 (G := F2))
  clear hst hb3 d0 d1 d2
  go_wp2_with fail
  refine hbk.mono ?_
  rintro e w4 ⟨rfl, F4, hp4, hg4⟩
  have hp5 : PgIs p pd pf b s F4 w4 := hp4.perm HPM.out.symm (List.Perm.refl _) (List.Perm.refl _) (List.Perm.refl _)
  have H4 := Lib.hid (And.intro hp5 (H2.out.trans (H3.out.trans hg4)))
  clear hbk hp4 hg4 hp5
  go_wp2_with fail
  go_ret2
  exact ⟨rfl, F4, H4.out⟩

set_option maxRecDepth 1000000 in
set_option maxHeartbeats 4000000 in
theorem gmake_ext (k n : Int) (t : ByteArray) {id r : Int} {s' : PgS} (hsp : s.spare = []) (hl : s.l = []) (h : PgIs p pd pf b s F w)
    (hext : ∀ w1, PgIs p pd pf b s F w1 → Calls Tryz.prog 37 #[.pointer (some ⟨p, 0, none⟩), .agg #[.int .i64 k, .int .i64 n, .string t]] w1 fun e w' => e = .returned (.tuple #[.int .i64 id, .int .i64 r]) ∧ ∃ F', PgIs p pd pf b s' F' w' ∧ Goes F w1 F' w') :
    Calls Tryz.prog 8 #[.pointer (some ⟨p, 0, none⟩), .agg #[.int .i64 k, .int .i64 n, .string t]] w fun e w' => e = .returned (.tuple #[.int .i64 id, .int .i64 r]) ∧ ∃ F', PgIs p pd pf b s' F' w' ∧ Goes F w F' w' := by
  have hb0 := alloc_below (w := w) (.cells #[.int .i64 k, .int .i64 n, .string t] 23)
  have hbx := Has.made w 23 #[.int .i64 k, .int .i64 n, .string t]
  obtain ⟨v, hpc⟩ := (h.below hb0).cells
  obtain ⟨c0, c1, -, -, -, -⟩ := pg_cells hpc
  have hn0 := gnone_at p pd _ c0
  have hi := h.lt p h.mem
  have HX := Lib.hid (And.intro h (And.intro hb0 (And.intro hbx (And.intro hsp hl))))
  clear h hpc hb0 hbx hsp hl
  go_enter Tryz.func8, Tryz.ntmps8
  go_wp2_with (go_at_call 34; refine hn0.mono ?_; rintro e w' ⟨rfl, rfl⟩)
  go_quiet (fail)
  have hk0 : Kept [] w ((w.alloc (.cells #[.int .i64 k, .int .i64 n, .string t] 23)).drewN nq) := (Kept.of_below HX.out.2.1).drewN nq
  have hp1 := HX.out.1.kept hk0 (by simp)
  have hbx1 : Has ((w.alloc (.cells #[.int .i64 k, .int .i64 n, .string t] 23)).drewN nq) w.heap.size 23 #[.int .i64 k, .int .i64 n, .string t] := HX.out.2.2.1
  generalize (w.alloc (.cells #[.int .i64 k, .int .i64 n, .string t] 23)).drewN nq = w1 at *
  have htn := stake_none hp1 HX.out.2.2.2.1
  have htk := ptake_none hp1 HX.out.2.2.2.2
  have hex := hext _ hp1
  have hk1 : Goes F w F w1 := ⟨hk0.mono (fun _ h => absurd h (by simp)), fun _ h => .inl h⟩
  have HG := Lib.hid hk1
  have d0 := hbx1.cell 0
  have d1 := hbx1.cell 1
  have d2 := hbx1.cell 2
  simp at d0 d1 d2
  have hbi := hbx1.inside
  clear hk0 hp1 hbx1 c0 c1 hn0 hi HX hext hk1
  go_wp2_with fail
  have i0 := idx_0 ⟨p, 2, none⟩ ⟨pf, 0, none⟩
  have i1 := idx_1 ⟨p, 2, none⟩ ⟨pf, 0, none⟩
  refine wp_loop_rounds 3 ?_
  rw [rounds_succ]
  go_wp2_with fail
  refine htn.mono ?_
  rintro e wq ⟨rfl, hwq⟩
  have hwq := hwq.symm
  subst hwq
  clear htn
  go_wp2_with fail
  rw [rounds_succ]
  go_wp2_with fail
  refine htk.mono ?_
  rintro e wq ⟨rfl, hwq⟩
  have hwq := hwq.symm
  subst hwq
  clear htk
  go_wp2_with fail
  rw [rounds_succ]
  go_wp2_with fail
  refine hex.mono ?_
  rintro e w2 ⟨rfl, F2, hp2, hg2⟩
  have H2 := Lib.hid (And.intro hp2 (HG.out.trans hg2))
  clear hex hp2 hg2
  go_wp2_with fail
  go_ret2
  exact ⟨rfl, F2, H2.out⟩

end
end Go.Proofs.YtmcfldcpmjdfbaaGreatDoor

namespace Go.Proofs.YtmcfldcpmjdfbaaGreatDoor
open Go.RowKit Go.Sort

section
variable {p pd pf b : Nat} {s : PgS} {F : List Nat} {w : World}

def chg0 (f : Int) : Chg := ⟨f, 0, 0, ⟨#[]⟩⟩

set_option maxRecDepth 1000000 in
set_option maxHeartbeats 4000000 in
theorem gdrop_other (x : Int) {r : Int} (hf : (s.H x).fate ≠ 1) (hx : IsInt x) (hc : s.n < 1000000) (h : PgIs p pd pf b s F w)
    (hrd : Calls Tryz.prog 9 #[.pointer (some ⟨p, 0, none⟩), .int .i64 x] w fun e w' => (∃ (k n : Int) (t : ByteArray) (g : Int), e = .returned (.tuple #[.agg #[.int .i64 k, .int .i64 n, .string t], .int .i64 g]) ∧ (g = 0 → 2 ≤ x ∧ x < s.pages ∧ (s.H x).fate ≠ 2 ∧ (s.H x).fate ≠ 3)) ∧ Below w.heap.size w w') :
    Calls Tryz.prog 13 #[.pointer (some ⟨p, 0, none⟩), .int .i64 x] w fun e w' => ∃ g, e = .returned (.int .i64 g) ∧
      ((g ≠ 0 ∧ PgIs p pd pf b s F w') ∨ (g = 0 ∧ 2 ≤ x ∧ x < s.pages ∧ (s.H x).fate ≠ 2 ∧ (s.H x).fate ≠ 3 ∧ PgIs p pd pf b (keptS s x (chg0 2)) F w')) ∧ Goes F w F w' := by
  have HX := Lib.hid h
  clear h
  go_enter Tryz.func13, Tryz.ntmps13
  go_wp2_with fail
  refine hrd.mono ?_
  rintro e w1 ⟨⟨k, n, t, g, rfl, hg⟩, hb⟩
  have hp1 := HX.out.below hb
  have hb1 := alloc_below (w := w1) (.cells #[.int .i64 k, .int .i64 n, .string t] 23)
  have hp2 := hp1.below hb1
  have HB := Lib.hid ((goes_below hb (G := F)).trans (goes_below hb1))
  have HG := Lib.hid hg
  clear hrd hb hp1 hb1 hg HX
  by_cases hg0 : g = 0
  · subst hg0
    obtain ⟨a1, a2, a3, a4⟩ := HG.out rfl
    have HA := Lib.hid (And.intro a1 (And.intro a2 (And.intro a3 a4)))
    have how := gown_any x hx hp2
    have hd : decide ((s.H x).fate = 1) = false := by simpa using hf
    rw [hd] at how
    obtain ⟨v, hpc⟩ := hp2.cells
    obtain ⟨-, -, -, -, -, c9⟩ := pg_cells hpc
    clear a1 a2 a3 a4 hd hf hpc HG
    go_wp2_with fail
    refine how.mono ?_
    rintro e w' ⟨rfl, rfl⟩
    clear how
    go_wp2_with (at_mapUpdate; refine wpList_put _ rfl _ _ _ rfl rfl hp2.here hc x rfl hx (chg0 2) rfl ?_; intro w3 hh hk3)
    obtain ⟨hp3, hk4⟩ := hp2.setHere hh hk3
    go_ret
    obtain ⟨a1, a2, a3, a4⟩ := HA.out
    exact ⟨0, rfl, .inr ⟨rfl, a1, a2, a3, a4, hp3⟩, HB.out.trans ⟨hk4, fun _ h => .inl h⟩⟩
  · have hg1 : (g != 0) = true := by simpa using hg0
    have HP := Lib.hid hp2
    clear hp2 HG
    go_wp2_with fail
    go_ret
    exact ⟨g, rfl, .inl ⟨hg0, HP.out⟩, HB.out⟩

set_option maxRecDepth 1000000 in
set_option maxHeartbeats 4000000 in
theorem gdrop_below (x : Int) (h0 : 2 ≤ x) (h1 : x < s.pages) (hf : (s.H x).fate = 1) (hs : (s.H x).body.size ≤ 281474976710656) (hth : x < s.there) (hx : IsInt x) (hc : s.n < 1000000) (hfew : s.l.length < 1000000) (h : PgIs p pd pf b s F w) :
    Calls Tryz.prog 13 #[.pointer (some ⟨p, 0, none⟩), .int .i64 x] w fun e w' => e = .returned (.int .i64 0) ∧ ∃ F', PgIs p pd pf b { keptS s x (chg0 3) with l := x :: s.l } F' w' ∧ Goes F w F' w' := by
  have hrd := gread_made x h0 h1 hx hf hs h
  have HX := Lib.hid h
  obtain ⟨k, hk⟩ : ∃ k, (s.H x).kind = k := ⟨_, rfl⟩
  obtain ⟨n, hn⟩ : ∃ n, (s.H x).next = n := ⟨_, rfl⟩
  obtain ⟨t, ht⟩ : ∃ t, (s.H x).body = t := ⟨_, rfl⟩
  rw [hk, hn, ht] at hrd
  clear h hk hn ht hs
  go_enter Tryz.func13, Tryz.ntmps13
  go_wp2_with fail
  refine hrd.mono ?_
  rintro e w1 ⟨rfl, hb⟩
  have hp1 := HX.out.below hb
  have hb1 := alloc_below (w := w1) (.cells #[.int .i64 k, .int .i64 n, .string t] 23)
  have hp2 := hp1.below hb1
  have HB := Lib.hid ((goes_below hb (G := F)).trans (goes_below hb1))
  clear hrd hb hp1 hb1 HX
  have how := gown_any x hx hp2
  rw [decide_eq_true hf] at how
  obtain ⟨v, hpc⟩ := hp2.cells
  obtain ⟨-, -, -, -, -, c9⟩ := pg_cells hpc
  clear hf hpc
  go_wp2_with fail
  refine how.mono ?_
  rintro e w' ⟨rfl, rfl⟩
  clear how
  have hth' : decide (x < s.there) = true := by simpa using hth
  go_wp2_with (at_mapUpdate; refine wpList_put _ rfl _ _ _ rfl rfl hp2.here hc x rfl hx (chg0 3) rfl ?_; intro w3 hh hk3
               obtain ⟨hp3, hk4⟩ := hp2.setHere hh hk3
               obtain ⟨v3, hpc3⟩ := hp3.cells
               obtain ⟨k0, k1, k6, k7, k8, k9⟩ := pg_cells hpc3
               have hbk := pback_one (s := keptS s x (chg0 3)) x hp3 hfew
               have H3 := Lib.hid hk4
               clear hh hk3 hp3 hk4 hpc3 hp2)
  refine hbk.mono ?_
  rintro e w4 ⟨rfl, F4, hp4, hg4⟩
  have H4 := Lib.hid (And.intro hp4 hg4)
  clear hbk hp4 hg4 k0 k1 k6 k7 k8 k9
  go_wp2_with fail
  go_ret
  exact ⟨rfl, F4, H4.out.1, HB.out.trans (Goes.trans ⟨H3.out, fun _ h => .inl h⟩ H4.out.2)⟩

set_option maxRecDepth 1000000 in
set_option maxHeartbeats 4000000 in
theorem gdrop_beyond (x : Int) (h0 : 2 ≤ x) (h1 : x < s.pages) (hf : (s.H x).fate = 1) (hs : (s.H x).body.size ≤ 281474976710656) (hth : s.there ≤ x) (hx : IsInt x) (hc : s.n < 1000000) (hfew : s.spare.length < 1000000) (h : PgIs p pd pf b s F w) :
    Calls Tryz.prog 13 #[.pointer (some ⟨p, 0, none⟩), .int .i64 x] w fun e w' => e = .returned (.int .i64 0) ∧ ∃ F', PgIs p pd pf b { keptS s x (chg0 3) with spare := x :: s.spare } F' w' ∧ Goes F w F' w' := by
  have hrd := gread_made x h0 h1 hx hf hs h
  have HX := Lib.hid h
  obtain ⟨k, hk⟩ : ∃ k, (s.H x).kind = k := ⟨_, rfl⟩
  obtain ⟨n, hn⟩ : ∃ n, (s.H x).next = n := ⟨_, rfl⟩
  obtain ⟨t, ht⟩ : ∃ t, (s.H x).body = t := ⟨_, rfl⟩
  rw [hk, hn, ht] at hrd
  clear h hk hn ht hs
  go_enter Tryz.func13, Tryz.ntmps13
  go_wp2_with fail
  refine hrd.mono ?_
  rintro e w1 ⟨rfl, hb⟩
  have hp1 := HX.out.below hb
  have hb1 := alloc_below (w := w1) (.cells #[.int .i64 k, .int .i64 n, .string t] 23)
  have hp2 := hp1.below hb1
  have HB := Lib.hid ((goes_below hb (G := F)).trans (goes_below hb1))
  clear hrd hb hp1 hb1 HX
  have how := gown_any x hx hp2
  rw [decide_eq_true hf] at how
  obtain ⟨v, hpc⟩ := hp2.cells
  obtain ⟨-, -, -, -, -, c9⟩ := pg_cells hpc
  clear hf hpc
  go_wp2_with fail
  refine how.mono ?_
  rintro e w' ⟨rfl, rfl⟩
  clear how
  have hth' : decide (x < s.there) = false := by simpa using hth
  go_wp2_with (at_mapUpdate; refine wpList_put _ rfl _ _ _ rfl rfl hp2.here hc x rfl hx (chg0 3) rfl ?_; intro w3 hh hk3
               obtain ⟨hp3, hk4⟩ := hp2.setHere hh hk3
               obtain ⟨v3, hpc3⟩ := hp3.cells
               obtain ⟨k0, k1, k6, k7, k8, k9⟩ := pg_cells hpc3
               have hbk := sback_one (s := keptS s x (chg0 3)) x hp3 hfew
               have H3 := Lib.hid hk4
               clear hh hk3 hp3 hk4 hpc3 hp2)
  refine hbk.mono ?_
  rintro e w4 ⟨rfl, F4, hp4, hg4⟩
  have H4 := Lib.hid (And.intro hp4 hg4)
  clear hbk hp4 hg4 k0 k1 k6 k7 k8 k9
  go_wp2_with fail
  go_ret
  exact ⟨rfl, F4, H4.out.1, HB.out.trans (Goes.trans ⟨H3.out, fun _ h => .inl h⟩ H4.out.2)⟩
end
end Go.Proofs.YtmcfldcpmjdfbaaGreatDoor
