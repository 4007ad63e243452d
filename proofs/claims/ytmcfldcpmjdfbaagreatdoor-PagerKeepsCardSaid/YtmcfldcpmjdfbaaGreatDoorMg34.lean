/-
  A pager's calls that lay a page into its map: keep, set.
-/
import Derived.Test.YtmcfldcpmjdfbaaGreatDoorMg32
import Derived.Test.YtmcfldcpmjdfbaaGreatDoorMg33
import Derived.StillTailTactics
namespace Go.Proofs.YtmcfldcpmjdfbaaGreatDoor
open Go.RowKit Go.Sort

section
variable {p pd pf b : Nat} {s : PgS} {F : List Nat} {w : World}

/-- A pager of which a page was made. -/
def keptS (s : PgS) (x : Int) (c : Chg) : PgS := { s with n := s.n + 1, H := upd s.H x c }

set_option maxRecDepth 1000000 in
set_option maxHeartbeats 2000000 in
theorem gkeep_any (x k n : Int) (t : ByteArray) (hx : IsInt x) (hs : t.size ≤ 281474976710656) (hn : s.n < 1000000) (h : PgIs p pd pf b s F w) :
    Calls Tryz.prog 68 #[.pointer (some ⟨p, 0, none⟩), .int .i64 x, .agg #[.int .i64 k, .int .i64 n, .string t]] w fun e w' => e = .returned (.tuple #[]) ∧ PgIs p pd pf b (keptS s x ⟨1, k, n, t⟩) F w' ∧ Kept F w w' := by
  have hA : Below w.heap.size w (w.alloc (.cells #[.int .i64 k, .int .i64 n, .string t] 23)) := (Below.refl _ _).alloc (Nat.le_refl _) _
  have hFl := h.lt
  have hbx := Has.made w 23 #[.int .i64 k, .int .i64 n, .string t]
  have hcl := tclone_any t hs (w.alloc (.cells #[.int .i64 k, .int .i64 n, .string t] 23))
  have HX := Lib.hid (And.intro h (And.intro hA hFl))
  have HBX := Lib.hid hbx
  clear h hA hFl hbx
  go_enter Tryz.func68, Tryz.ntmps68
  go_wp2_with fail
  refine hcl.mono ?_
  rintro e w1 ⟨rfl, hb⟩
  clear hcl
  have hb1 := HBX.out.below hb (by simp)
  have f2 := hb1.free 2
  have d2 := hb1.cell 2
  simp at d2
  have hi1 := hb1.inside
  have hb2 := hb1.put 2 (.string t)
  have hB1 : Below w.heap.size w w1 := HX.out.2.1.trans (hb.mono (by simp))
  have hk : Kept F w (w1.setCell ⟨w.heap.size, 2, none⟩ (.string t)) := (Kept.of_below hB1).setCell (.inr (Nat.le_refl _)) _ |>.mono (fun k hk => .inl hk)
  have hp2 : PgIs p pd pf b s F (w1.setCell ⟨w.heap.size, 2, none⟩ (.string t)) :=
    HX.out.1.kept (G := [w.heap.size]) ((Kept.of_below hB1).setCell (.inr (Nat.le_refl _)) _) (fun x hx hg => by have := HX.out.2.2 x hx; simp at hg; omega)
  have H2 := Lib.hid (And.intro hb2 (And.intro hk hp2))
  clear hb1 hb hb2 hB1 hk hp2 HX HBX
  go_wp2
  obtain ⟨hb2, hk, hp2⟩ := H2.out
  clear H2 f2 hi1 d2
  generalize w1.setCell ⟨w.heap.size, 2, none⟩ (.string t) = w2 at *
  have d0 := hb2.cell 0
  have d1 := hb2.cell 1
  have d2 := hb2.cell 2
  simp at d0 d1 d2
  obtain ⟨v, hp⟩ := hp2.cells
  obtain ⟨c0, c1, c6, c7, c8, c9⟩ := pg_cells hp
  have H2 := Lib.hid (And.intro hk hp2)
  clear hk hp2 hp hb2
  go_still_tail 7, (by kernel_rfl)
  change wpList _ _ _ _ _ w2.drew
  have hk2 : Kept F w w2.drew := H2.out.1.drew
  have hp2 : PgIs p pd pf b s F w2.drew := H2.out.2.kept (G := []) (Kept.refl [] w2).drew (by simp)
  refine wpList_put _ rfl _ _ _ rfl rfl hp2.here hn x rfl hx ⟨1, k, n, t⟩ rfl ?_
  intro w3 hh hk3
  obtain ⟨hp3, hk4⟩ := hp2.setHere hh hk3
  have H3 := Lib.hid (And.intro hp3 (hk2.trans hk4))
  clear hk2 hp2 hh hk3 hp3 hk4 H2 c0 c1 c6 c7 c8 c9 d0 d1 d2
  go_wp2
  go_end0
  exact ⟨rfl, H3.out⟩
end
end Go.Proofs.YtmcfldcpmjdfbaaGreatDoor
