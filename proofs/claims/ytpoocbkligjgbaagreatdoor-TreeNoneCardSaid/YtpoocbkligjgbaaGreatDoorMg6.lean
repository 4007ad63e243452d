/-
  A line in memory: what is due, three cells each; how two are compared. A line's five methods as a heap; its first one. The calls of a line. Free pages in memory: two piles and a line in one block, each to be turned by itself. The least one of a list of distinct Seqs, and of numbers. The calls of free pages, but Release and All. Free pages: Give and Release. Rows of the call's own, side by side; append of one element, of several. Words for rows of numbers.
-/
import Derived.Test.YtpoocbkligjgbaaGreatDoorMg4
import Derived.Test.YtpoocbkligjgbaaGreatDoorMg5
import Derived.Deep.RegionHeld3
namespace Go.Proofs.YtpoocbkligjgbaaGreatDoor
open Go.RowKit Go.Sort

/-- At, Seq, What. -/
abbrev Due := Int × Int × Int
def dcells (d : Due) : List Value := [.int .i64 d.1, .int .i64 d.2.1, .int .i64 d.2.2]
def dval (d : Due) : Value := .agg #[.int .i64 d.1, .int .i64 d.2.1, .int .i64 d.2.2]
def dlist (l : List Due) : List Value := l.flatMap dcells
def ltDue (a b : Due) : Bool := decide (a.1 < b.1 ∨ a.1 = b.1 ∧ a.2.1 < b.2.1)
def cmpDue (a b : Due) : Int := if Lib.compareInt a.1 b.1 ≠ 0 then Lib.compareInt a.1 b.1 else Lib.compareInt a.2.1 b.2.1

theorem cmpDue_lt (a b : Due) : decide (cmpDue a b < 0) = ltDue a b := by
  unfold cmpDue ltDue Lib.compareInt
  rcases Int.lt_trichotomy a.1 b.1 with h | h | h
  · simp [h]
  · rcases Int.lt_trichotomy a.2.1 b.2.1 with k | k | k
    · simp [h, k]
    · simp [h, k]
    · simp [h, show ¬ a.2.1 < b.2.1 by omega, k]
  · simp [show ¬ a.1 < b.1 by omega, h, show ¬ a.1 = b.1 by omega]

theorem swo_due : SWO ltDue where
  irrefl a := by simp [ltDue]
  trans a b c := by simp only [ltDue, decide_eq_true_eq]; omega
  ntrans a b c := by simp only [ltDue, decide_eq_false_iff_not]; omega

theorem length_dlist (l : List Due) : (dlist l).length = l.length * 3 := by
  induction l with
  | nil => rfl
  | cons d r ih => unfold dlist at *; rw [List.flatMap_cons, List.length_append, ih]; simp [dcells]; omega
theorem dlist_cons (d : Due) (r : List Due) : dlist (d :: r) = dcells d ++ dlist r := rfl
theorem dlist_at : ∀ (l : List Due) (i j : Nat) (d : Due), l[i]? = some d → j < 3 → (dlist l)[i * 3 + j]? = (dcells d)[j]?
  | [], _, _, _, h, _ => by simp at h
  | x :: r, 0, j, d, h, hj => by
    obtain rfl : x = d := by simpa using h
    rw [dlist_cons, List.getElem?_append_left (by simp [dcells]; omega)]
    simp
  | x :: r, i + 1, j, d, h, hj => by
    rw [dlist_cons, List.getElem?_append_right (by simp [dcells]; omega)]
    rw [show (i + 1) * 3 + j - (dcells x).length = i * 3 + j by simp [dcells]; omega]
    exact dlist_at r i j d (by simpa using h) hj

/-- Where a line stands: its count and its slice, in two cells of a block of type t, among other cells. -/
structure Spot2 (o : Nat) where
  t : TypeId
  K : Value → Value → Array Value
  get0 : ∀ s v, (K s v)[o]? = some s
  get1 : ∀ s v, (K s v)[o + 1]? = some v
  put0 : ∀ s v u, (K s v).setIfInBounds o u = K u v
  put1 : ∀ s v u, (K s v).setIfInBounds (o + 1) u = K s u

section
variable {w w' : World} {p o : Nat} {S : Spot2 o} {s v : Value}
theorem Has.spot0 (h : Has w p S.t (S.K s v)) : w.cell? ⟨p, o, none⟩ = some s := (h.cell o).trans (S.get0 s v)
theorem Has.spot1 (h : Has w p S.t (S.K s v)) : w.cell? ⟨p, o + 1, none⟩ = some v := (h.cell (o + 1)).trans (S.get1 s v)
theorem Has.respot0 (h : Has w p S.t (S.K s v)) (u : Value) : Has (w.setCell ⟨p, o, none⟩ u) p S.t (S.K u v) := by
  have := h.put o u
  rwa [S.put0] at this
end

/-- A line at cell o of p: its count and a row of its own, three cells each. -/
def DueAt (p : Nat) {o : Nat} (S : Spot2 o) (sq : Int) (w : World) (F : List Nat) (a : Array Due) : Prop :=
  ∃ v, Has w p S.t (S.K (.int .i64 sq) v) ∧ w.ownsRow 0 115 3 v a.size (dlist a.toList) ∧ (∀ g, v.ownBlock = some g → g ≠ p) ∧ F = p :: v.ownBlock.toList ∧ a.size ≤ 1000000

theorem DueAt.open {p o : Nat} {S : Spot2 o} {sq : Int} {w : World} {F : List Nat} {a : Array Due} (h : DueAt p S sq w F a) (h0 : 0 < a.size) :
    ∃ g cap, Has w p S.t (S.K (.int .i64 sq) (.slice (some ⟨g, 0, none⟩) a.size cap)) ∧ w.ownsRow 0 115 3 (.slice (some ⟨g, 0, none⟩) a.size cap) a.size (dlist a.toList) ∧ g ≠ p ∧ F = [p, g] ∧ a.size ≤ cap ∧ a.size ≤ 1000000 ∧ cap ≤ maxLen := by
  obtain ⟨v, hp, hr, hne, rfl, hs⟩ := h
  rcases hr.2 with ⟨_, h1⟩ | ⟨g, cap, cur, rfl, _, _, hc, hm, _⟩
  · omega
  · exact ⟨g, cap, hp, hr, hne g rfl, rfl, hc, hs, hm⟩


theorem DueAt.lt {p o : Nat} {S : Spot2 o} {sq : Int} {w : World} {F : List Nat} {a : Array Due} (h : DueAt p S sq w F a) : ∀ k ∈ F, k < w.heap.size := by
  obtain ⟨v, hp, hr, hne, rfl, hs⟩ := h
  intro k hk
  rcases List.mem_cons.1 hk with rfl | hk
  · exact hp.inside
  · exact (hr.lt k (by simpa using hk)).2

theorem DueAt.kept {p o : Nat} {S : Spot2 o} {sq : Int} {w w' : World} {F G : List Nat} {a : Array Due} (h : DueAt p S sq w F a) (hk : Kept G w w') (hd : ∀ k ∈ F, k ∉ G) : DueAt p S sq w' F a := by
  obtain ⟨v, hp, hr, hne, rfl, hs⟩ := h
  exact ⟨v, hp.kept hk (hd p (by simp)), row_kept hr hk (fun g hg => hd g (by simp [hg])), hne, rfl, hs⟩

/-- The cells of one. -/
theorem due_range {w : World} {base g n cap : Nat} {a : Array Due} (hr : w.ownsRow base 115 3 (.slice (some ⟨g, 0, none⟩) n cap) n (dlist a.toList)) {i : Nat} (hi : i < a.size) : w.rangeAt g (i * 3) (dcells a[i]!) := by
  intro j v hv
  have hj : j < 3 := (List.getElem?_eq_some_iff.1 hv).1
  have hn : a.size = n := by have := hr.1; rw [length_dlist, Array.length_toList] at this; omega
  rw [hr.cellAt (i * 3 + j) (by omega), dlist_at _ i j _ (get_of hi) hj, hv]



/-- cmp.Or of two. -/
theorem or2_any (b : Nat) (x y : Int) (w : World) (h : Has w b 3 #[.int .i64 x, .int .i64 y]) :
    Calls Tryz.prog 209 #[.slice (some ⟨b, 0, none⟩) 2 2] w fun e w' => e = .returned (.int .i64 (if x ≠ 0 then x else y)) ∧ w' = w := by
  have c0 := h.cell 0
  have c1 := h.cell 1
  simp at c0 c1
  clear h
  obtain ⟨r, hr⟩ : ∃ r, (if x ≠ 0 then x else y) = r := ⟨_, rfl⟩
  rw [hr]
  have HR := Lib.hid hr
  clear hr
  by_cases hx : x = 0
  · have hx1 : (x != 0) = false := by simpa using hx
    by_cases hy : y = 0
    · have hy1 : (y != 0) = false := by simpa using hy
      have HX := Lib.hid (show r = 0 by rw [← HR.out]; simp [hx, hy])
      clear hx hy
      go_enter Tryz.func209, Tryz.ntmps209
      go_wp2_with fail
      go_loopg [8] 2 (fun g i wr => ∃ k : Nat, i = .int .i64 k ∧ k + g = 2 ∧ wr = w)
      case atStart => exact ⟨0, rfl, rfl, rfl⟩
      case round =>
        obtain ⟨k, rfl, hk, rfl⟩ := hrel
        rcases (show k = 0 ∨ k = 1 ∨ k = 2 by omega) with rfl | rfl | rfl
        · go_wp2
          go_roundg 1
          case measure => omega
          case rel => exact ⟨1, rfl, rfl, rfl⟩
        · go_wp2
          go_roundg 0
          case measure => omega
          case rel => exact ⟨2, rfl, rfl, rfl⟩
        · go_wp2
          go_ret
          exact ⟨by rw [HX.out]; rfl, rfl⟩
    · have hy1 : (y != 0) = true := by simpa using hy
      have HX := Lib.hid (show r = y by rw [← HR.out]; simp [hx])
      clear hx hy
      go_enter Tryz.func209, Tryz.ntmps209
      go_wp2_with fail
      go_loopg [8] 2 (fun g i wr => ∃ k : Nat, i = .int .i64 k ∧ k + g = 2 ∧ wr = w ∧ k < 2)
      case atStart => exact ⟨0, rfl, rfl, rfl, by omega⟩
      case round =>
        obtain ⟨k, rfl, hk, rfl, _⟩ := hrel
        rcases (show k = 0 ∨ k = 1 by omega) with rfl | rfl
        · go_wp2
          go_roundg 1
          case measure => omega
          case rel => exact ⟨1, rfl, rfl, rfl, by omega⟩
        · go_wp2
          go_ret
          exact ⟨by rw [HX.out]; rfl, rfl⟩
  · have hx1 : (x != 0) = true := by simpa using hx
    have HX := Lib.hid (show r = x by rw [← HR.out]; simp [hx])
    clear hx
    go_enter Tryz.func209, Tryz.ntmps209
    go_wp2_with fail
    go_loopg [8] 2 (fun g i wr => i = .int .i64 0 ∧ wr = w)
    case atStart => exact ⟨rfl, rfl⟩
    case round =>
      obtain ⟨rfl, rfl⟩ := hrel
      go_wp2
      go_ret
      exact ⟨by rw [HX.out]; rfl, rfl⟩

set_option maxRecDepth 100000 in
set_option maxHeartbeats 1000000 in
theorem order_more (a b : Due) (w : World) : Calls Tryz.prog 151 #[dval a, dval b] w fun e w' => e = .returned (.int .i64 (cmpDue a b)) ∧ Below w.heap.size w w' ∧ w.drawn ≤ w'.drawn := by
  have hor := fun (w' : World) (g : Nat) => or2_any g (Lib.compareInt a.1 b.1) (Lib.compareInt a.2.1 b.2.1) w'
  have HO := Lib.hid hor
  have HC := Lib.hid (show cmpDue a b = if Lib.compareInt a.1 b.1 ≠ 0 then Lib.compareInt a.1 b.1 else Lib.compareInt a.2.1 b.2.1 from rfl)
  have hc1 := fun w' => Tryz.cmp_Compare_int a.1 b.1 w'
  have hc2 := fun w' => Tryz.cmp_Compare_int a.2.1 b.2.1 w'
  have HC1 := Lib.hid hc1
  have HC2 := Lib.hid hc2
  unfold dval
  obtain ⟨a1, a2, a3⟩ := a
  obtain ⟨b1, b2, b3⟩ := b
  clear hor hc1 hc2
  simp only at HO HC HC1 HC2 ⊢
  generalize Lib.compareInt a1 b1 = r1 at *
  generalize Lib.compareInt a2 b2 = r2 at *
  generalize cmpDue (a1, a2, a3) (b1, b2, b3) = r at *
  have hA : Has ((w.alloc (.cells #[.int .i64 a1, .int .i64 a2, .int .i64 a3] 115)).alloc (.cells #[.int .i64 b1, .int .i64 b2, .int .i64 b3] 115)) w.heap.size 115 #[.int .i64 a1, .int .i64 a2, .int .i64 a3] := (Has.made w _ _).alloc _
  have hB : Has ((w.alloc (.cells #[.int .i64 a1, .int .i64 a2, .int .i64 a3] 115)).alloc (.cells #[.int .i64 b1, .int .i64 b2, .int .i64 b3] 115)) (w.heap.size + 1) 115 #[.int .i64 b1, .int .i64 b2, .int .i64 b3] := by
    have := Has.made (w.alloc (.cells #[.int .i64 a1, .int .i64 a2, .int .i64 a3] 115)) 115 #[.int .i64 b1, .int .i64 b2, .int .i64 b3]
    simpa using this
  have hbl : Below w.heap.size w ((w.alloc (.cells #[.int .i64 a1, .int .i64 a2, .int .i64 a3] 115)).alloc (.cells #[.int .i64 b1, .int .i64 b2, .int .i64 b3] 115)) :=
    ((Below.refl _ _).alloc (Nat.le_refl _) _).alloc (by simp) _
  have hdr : w.drawn ≤ ((w.alloc (.cells #[.int .i64 a1, .int .i64 a2, .int .i64 a3] 115)).alloc (.cells #[.int .i64 b1, .int .i64 b2, .int .i64 b3] 115)).drawn := Nat.le_refl _
  have HAB := Lib.hid (And.intro hA (And.intro hB (And.intro hbl hdr)))
  clear hA hB hbl hdr
  go_enter Tryz.func151, Tryz.ntmps151
  go_wp2_with fail
  obtain ⟨hA, hB, hbl, hdr⟩ := HAB.out
  clear HAB
  generalize (w.alloc (.cells #[.int .i64 a1, .int .i64 a2, .int .i64 a3] 115)).alloc (.cells #[.int .i64 b1, .int .i64 b2, .int .i64 b3] 115) = W at *
  have hS : W.drew.cell? ⟨w.heap.size, 0, none⟩ = some (.int .i64 a1) ∧ W.drew.cell? ⟨w.heap.size, 1, none⟩ = some (.int .i64 a2) ∧ W.drew.cell? ⟨w.heap.size + 1, 0, none⟩ = some (.int .i64 b1) ∧ W.drew.cell? ⟨w.heap.size + 1, 1, none⟩ = some (.int .i64 b2) :=
    ⟨hA.cell 0, hA.cell 1, hB.cell 0, hB.cell 1⟩
  have hle := hbl.size
  have HB := Lib.hid (And.intro hbl hdr)
  clear hA hB hbl hdr
  refine wp_region_tills (fun w' => w'.cell? ⟨w.heap.size, 0, none⟩ = some (.int .i64 a1) ∧ w'.cell? ⟨w.heap.size, 1, none⟩ = some (.int .i64 a2) ∧ w'.cell? ⟨w.heap.size + 1, 0, none⟩ = some (.int .i64 b1) ∧ w'.cell? ⟨w.heap.size + 1, 1, none⟩ = some (.int .i64 b2)) 10 (by kernel_rfl) ?_
  refine till_takeAt 5 (i := 0) (v := .pointer (some ⟨w.heap.size, 0, none⟩)) rfl rfl (by kernel_rfl) (by kernel_rfl) (by kernel_rfl) (by kernel_rfl) (by kernel_rfl) (fun _ _ _ h => h) (Or.inl ⟨by rfl, fun w' hw' => by obtain ⟨q1, q2, q3, q4⟩ := hw'; go_simp⟩) hS ?_
  simp only [List.setIfInBounds_toArray, List.set_cons_zero, List.set_cons_succ]
  refine till_takeAt 6 (i := 1) (v := .int .i64 a1) rfl rfl (by kernel_rfl) (by kernel_rfl) (by kernel_rfl) (by kernel_rfl) (by kernel_rfl) (fun _ _ _ h => h) (Or.inl ⟨by rfl, fun w' hw' => by obtain ⟨q1, q2, q3, q4⟩ := hw'; go_simp⟩) hS ?_
  simp only [List.setIfInBounds_toArray, List.set_cons_zero, List.set_cons_succ]
  refine till_takeAt 7 (i := 2) (v := .pointer (some ⟨w.heap.size + 1, 0, none⟩)) rfl rfl (by kernel_rfl) (by kernel_rfl) (by kernel_rfl) (by kernel_rfl) (by kernel_rfl) (fun _ _ _ h => h) (Or.inl ⟨by rfl, fun w' hw' => by obtain ⟨q1, q2, q3, q4⟩ := hw'; go_simp⟩) hS ?_
  simp only [List.setIfInBounds_toArray, List.set_cons_zero, List.set_cons_succ]
  refine till_takeAt 8 (i := 3) (v := .int .i64 b1) rfl rfl (by kernel_rfl) (by kernel_rfl) (by kernel_rfl) (by kernel_rfl) (by kernel_rfl) (fun _ _ _ h => h) (Or.inl ⟨by rfl, fun w' hw' => by obtain ⟨q1, q2, q3, q4⟩ := hw'; go_simp⟩) hS ?_
  simp only [List.setIfInBounds_toArray, List.set_cons_zero, List.set_cons_succ]
  refine till_takeAt 10 (i := 5) (v := .pointer (some ⟨w.heap.size, 1, none⟩)) rfl rfl (by kernel_rfl) (by kernel_rfl) (by kernel_rfl) (by kernel_rfl) (by kernel_rfl) (fun _ _ _ h => h) (Or.inl ⟨by rfl, fun w' hw' => by obtain ⟨q1, q2, q3, q4⟩ := hw'; go_simp⟩) hS ?_
  simp only [List.setIfInBounds_toArray, List.set_cons_zero, List.set_cons_succ]
  refine till_takeAt 11 (i := 6) (v := .int .i64 a2) rfl rfl (by kernel_rfl) (by kernel_rfl) (by kernel_rfl) (by kernel_rfl) (by kernel_rfl) (fun _ _ _ h => h) (Or.inl ⟨by rfl, fun w' hw' => by obtain ⟨q1, q2, q3, q4⟩ := hw'; go_simp⟩) hS ?_
  simp only [List.setIfInBounds_toArray, List.set_cons_zero, List.set_cons_succ]
  refine till_takeAt 12 (i := 7) (v := .pointer (some ⟨w.heap.size + 1, 1, none⟩)) rfl rfl (by kernel_rfl) (by kernel_rfl) (by kernel_rfl) (by kernel_rfl) (by kernel_rfl) (fun _ _ _ h => h) (Or.inl ⟨by rfl, fun w' hw' => by obtain ⟨q1, q2, q3, q4⟩ := hw'; go_simp⟩) hS ?_
  simp only [List.setIfInBounds_toArray, List.set_cons_zero, List.set_cons_succ]
  refine till_takeAt 13 (i := 8) (v := .int .i64 b2) rfl rfl (by kernel_rfl) (by kernel_rfl) (by kernel_rfl) (by kernel_rfl) (by kernel_rfl) (fun _ _ _ h => h) (Or.inl ⟨by rfl, fun w' hw' => by obtain ⟨q1, q2, q3, q4⟩ := hw'; go_simp⟩) hS ?_
  simp only [List.setIfInBounds_toArray, List.set_cons_zero, List.set_cons_succ]
  refine till_one (i := 4) (by kernel_rfl) rfl rfl (fun K hK => ?_)
  go_simp
  refine (HC1.out _).mono ?_
  rintro e w' ⟨rfl, rfl⟩
  refine hK _ _ ⟨fun _ => hS, ?_⟩
  clear hK K
  refine till_one (i := 9) (by kernel_rfl) rfl rfl (fun K hK => ?_)
  go_simp
  refine (HC2.out _).mono ?_
  rintro e w' ⟨rfl, rfl⟩
  refine hK _ _ ⟨fun _ => hS, ?_⟩
  clear hK K hS
  refine till_one (i := 10) (by kernel_rfl) rfl rfl (fun K hK => ?_)
  go_simp
  refine hK _ _ ⟨fun h => absurd h (by omega), ?_⟩
  clear hK K
  have hH : Has (W.alloc (.cells #[.int .i64 r1, .int .i64 r2] 3)).drew W.heap.size 3 #[.int .i64 r1, .int .i64 r2] := (Has.made W _ _)
  have ho := HO.out _ _ hH
  rw [← HC.out] at ho
  refine till_one (i := 11) (by kernel_rfl) rfl rfl (fun K hK => ?_)
  go_simp
  refine ho.mono ?_
  rintro e w' ⟨rfl, rfl⟩
  refine hK _ _ ⟨fun h => absurd h (by omega), ?_⟩
  clear hK K ho hH
  refine till_one (i := 12) (by kernel_rfl) rfl rfl (fun K hK => ?_)
  go_simp
  refine hK _ _ ⟨fun h => absurd h (by omega), till_done (by kernel_rfl) ?_ _⟩
  clear hK K
  go_wp2
  go_ret
  exact ⟨rfl, (HB.out.1.alloc hle _).drew, Nat.le_succ_of_le HB.out.2⟩

end Go.Proofs.YtpoocbkligjgbaaGreatDoor

namespace Go.Proofs.YtpoocbkligjgbaaGreatDoor
open Go.RowKit Go.Sort


theorem dcells_one (d : Due) : ∀ v ∈ dcells d, v.oneCell' = true := by
  intro v hv
  simp only [dcells, List.mem_cons, List.not_mem_nil, or_false] at hv
  rcases hv with rfl | rfl | rfl <;> rfl






theorem Tryz.infoDue : (Tryz.prog.info? 115).map (fun i => (i.zero, i.size, i.bytes)) = some (some (.agg #[.int .i64 0, .int .i64 0, .int .i64 0]), 3, 24) := by kernel_rfl



end Go.Proofs.YtpoocbkligjgbaaGreatDoor

namespace Go.Proofs.YtpoocbkligjgbaaGreatDoor
open Go.RowKit Go.Sort

/-- A line at p, whose last Seq is sq, that holds what stands in l. -/
def LineIs (p : Nat) {o : Nat} (S : Spot2 o) (sq : Int) (w : World) (F : List Nat) (l : List Due) : Prop := HeapOf ltDue (DueAt p S sq) F l w

theorem LineIs.kept {p o : Nat} {S : Spot2 o} {sq : Int} {w w' : World} {F G : List Nat} {l : List Due} (h : LineIs p S sq w F l) (hk : Kept G w w') (hd : ∀ k ∈ F, k ∉ G) : LineIs p S sq w' F l := by
  obtain ⟨a, ha, h1, h2⟩ := h
  exact ⟨a, ha.kept hk hd, h1, h2⟩
theorem LineIs.below {p o : Nat} {S : Spot2 o} {sq : Int} {w w' : World} {F : List Nat} {l : List Due} (h : LineIs p S sq w F l) (hb : Below w.heap.size w w') : LineIs p S sq w' F l := h.kept (G := []) (Kept.of_below hb) (by simp)
theorem LineIs.lt {p o : Nat} {S : Spot2 o} {sq : Int} {w : World} {F : List Nat} {l : List Due} (h : LineIs p S sq w F l) : ∀ k ∈ F, k < w.heap.size := by
  obtain ⟨a, ha, _⟩ := h
  exact ha.lt
theorem LineIs.perm {p o : Nat} {S : Spot2 o} {sq : Int} {w : World} {F : List Nat} {l m : List Due} (h : LineIs p S sq w F l) (hp : l.Perm m) : LineIs p S sq w F m := by
  obtain ⟨a, ha, h1, h2⟩ := h
  exact ⟨a, ha, h1, h2.trans hp⟩
theorem LineIs.few {p o : Nat} {S : Spot2 o} {sq : Int} {w : World} {F : List Nat} {l : List Due} (h : LineIs p S sq w F l) : l.length ≤ 1000000 := by
  obtain ⟨a, ⟨_, _, _, _, _, hs⟩, h1, h2⟩ := h
  have := h2.length_eq
  simp at this
  omega



theorem DueAt.count {p o : Nat} {S : Spot2 o} {sq : Int} {w : World} {F : List Nat} {a : Array Due} (h : DueAt p S sq w F a) (z : Int) : DueAt p S z (w.setCell ⟨p, o, none⟩ (.int .i64 z)) F a ∧ Kept F w (w.setCell ⟨p, o, none⟩ (.int .i64 z)) ∧ w.cell? ⟨p, o, none⟩ = some (.int .i64 sq) ∧ w.frozen? ⟨p, o, none⟩ = false := by
  obtain ⟨v, hp, hr, hne, rfl, hs⟩ := h
  refine ⟨⟨v, hp.respot0 (.int .i64 z), hr.kept (grownBy_setCell w ⟨p, o, none⟩ _) ?_, hne, rfl, hs⟩, (Kept.refl _ _).setCell (p := ⟨p, o, none⟩) (by simp) _, hp.spot0, hp.free o⟩
  rcases hv : v.ownBlock with _ | g
  · exact .inl rfl
  · exact .inr (by simpa using hne g hv)










end Go.Proofs.YtpoocbkligjgbaaGreatDoor

namespace Go.Proofs.YtpoocbkligjgbaaGreatDoor
open Go.RowKit Go.Sort

def spotF (s v1 v2 : Value) : Spot 0 := ⟨104, fun v => #[v, s, v1, v2], fun _ => rfl, fun _ _ => rfl⟩
def spotW (v0 v2 : Value) : Spot2 1 := ⟨104, fun s v => #[v0, s, v, v2], fun _ _ => rfl, fun _ _ => rfl, fun _ _ _ => rfl, fun _ _ _ => rfl⟩

/-- A row of numbers that is a heap of what stands in l. -/
def NRow (w : World) (p : Nat) (v : Value) (l : List Int) : Prop :=
  ∃ a : Array Int, w.ownsRow 0 3 1 v a.size (ints a) ∧ (∀ g, v.ownBlock = some g → g ≠ p) ∧ a.size ≤ 1000000 ∧ HeapFrom ltInt a a.size 0 ∧ a.toList.Perm l
/-- A row of what is due that is a heap of what stands in l. -/
def DRow (w : World) (p : Nat) (v : Value) (l : List Due) : Prop :=
  ∃ a : Array Due, w.ownsRow 0 115 3 v a.size (dlist a.toList) ∧ (∀ g, v.ownBlock = some g → g ≠ p) ∧ a.size ≤ 1000000 ∧ HeapFrom ltDue a a.size 0 ∧ a.toList.Perm l

section
variable {w w' : World} {p o : Nat} {v : Value} {F G : List Nat}
theorem NRow.kept {l : List Int} (h : NRow w p v l) (hk : Kept G w w') (hn : ∀ g, v.ownBlock = some g → g ∉ G) : NRow w' p v l := by
  obtain ⟨a, h1, h2, h3, h4, h5⟩ := h
  exact ⟨a, row_kept h1 hk hn, h2, h3, h4, h5⟩
theorem DRow.kept {l : List Due} (h : DRow w p v l) (hk : Kept G w w') (hn : ∀ g, v.ownBlock = some g → g ∉ G) : DRow w' p v l := by
  obtain ⟨a, h1, h2, h3, h4, h5⟩ := h
  exact ⟨a, row_kept h1 hk hn, h2, h3, h4, h5⟩
theorem NRow.lt {l : List Int} (h : NRow w p v l) (g : Nat) (hg : v.ownBlock = some g) : g < w.heap.size := by
  obtain ⟨a, h1, _⟩ := h
  exact (h1.lt g hg).2
theorem DRow.lt {l : List Due} (h : DRow w p v l) (g : Nat) (hg : v.ownBlock = some g) : g < w.heap.size := by
  obtain ⟨a, h1, _⟩ := h
  exact (h1.lt g hg).2
theorem NRow.ne {l : List Int} (h : NRow w p v l) (g : Nat) (hg : v.ownBlock = some g) : g ≠ p := by
  obtain ⟨a, _, h2, _⟩ := h
  exact h2 g hg
theorem DRow.ne {l : List Due} (h : DRow w p v l) (g : Nat) (hg : v.ownBlock = some g) : g ≠ p := by
  obtain ⟨a, _, h2, _⟩ := h
  exact h2 g hg
theorem NRow.nil (w : World) (p : Nat) : NRow w p (.slice none 0 0) [] := ⟨#[], World.ownsRow_nil _ _ _ _, by simp [Value.ownBlock], by simp, fun k _ hk => absurd hk (by simp), List.Perm.refl _⟩
theorem DRow.nil (w : World) (p : Nat) : DRow w p (.slice none 0 0) [] := ⟨#[], World.ownsRow_nil _ _ _ _, by simp [Value.ownBlock], by simp, fun k _ hk => absurd hk (by simp), List.Perm.refl _⟩
theorem NRow.perm {l m : List Int} (h : NRow w p v l) (hp : l.Perm m) : NRow w p v m := by
  obtain ⟨a, h1, h2, h3, h4, h5⟩ := h
  exact ⟨a, h1, h2, h3, h4, h5.trans hp⟩
theorem DRow.perm {l m : List Due} (h : DRow w p v l) (hp : l.Perm m) : DRow w p v m := by
  obtain ⟨a, h1, h2, h3, h4, h5⟩ := h
  exact ⟨a, h1, h2, h3, h4, h5.trans hp⟩

theorem pile_of {S : Spot o} {l : List Int} (hp : Has w p S.t (S.K v)) (h : NRow w p v l) : PileIs p S w (p :: v.ownBlock.toList) l := by
  obtain ⟨a, h1, h2, h3, h4, h5⟩ := h
  exact ⟨a, ⟨v, hp, h1, h2, rfl, h3⟩, h4, h5⟩
theorem of_pile {S : Spot o} {l : List Int} (h : PileIs p S w F l) : ∃ v, Has w p S.t (S.K v) ∧ NRow w p v l ∧ F = p :: v.ownBlock.toList := by
  obtain ⟨a, ⟨v, hp, h1, h2, rfl, h3⟩, h4, h5⟩ := h
  exact ⟨v, hp, ⟨a, h1, h2, h3, h4, h5⟩, rfl⟩
theorem line_of {S : Spot2 o} {sq : Int} {l : List Due} (hp : Has w p S.t (S.K (.int .i64 sq) v)) (h : DRow w p v l) : LineIs p S sq w (p :: v.ownBlock.toList) l := by
  obtain ⟨a, h1, h2, h3, h4, h5⟩ := h
  exact ⟨a, ⟨v, hp, h1, h2, rfl, h3⟩, h4, h5⟩
theorem of_line {S : Spot2 o} {sq : Int} {l : List Due} (h : LineIs p S sq w F l) : ∃ v, Has w p S.t (S.K (.int .i64 sq) v) ∧ DRow w p v l ∧ F = p :: v.ownBlock.toList := by
  obtain ⟨a, ⟨v, hp, h1, h2, rfl, h3⟩, h4, h5⟩ := h
  exact ⟨v, hp, ⟨a, h1, h2, h3, h4, h5⟩, rfl⟩
end

/-- Free pages at p: l are free, m wait (the last Seq is sq), k are pinned. -/
def FreeIs (p : Nat) (w : World) (F : List Nat) (l : List Int) (sq : Int) (m : List Due) (k : List Int) : Prop :=
  ∃ v0 v1 v2, Has w p 104 #[v0, .int .i64 sq, v1, v2] ∧ NRow w p v0 l ∧ DRow w p v1 m ∧ NRow w p v2 k ∧
    (∀ g, v0.ownBlock = some g → v1.ownBlock ≠ some g ∧ v2.ownBlock ≠ some g) ∧ (∀ g, v1.ownBlock = some g → v2.ownBlock ≠ some g) ∧
    F = p :: (v0.ownBlock.toList ++ v1.ownBlock.toList ++ v2.ownBlock.toList)

section
variable {w w' : World} {p : Nat} {F G : List Nat} {l k : List Int} {sq : Int} {m : List Due}
theorem FreeIs.lt (h : FreeIs p w F l sq m k) : ∀ x ∈ F, x < w.heap.size := by
  obtain ⟨v0, v1, v2, hp, h0, h1, h2, _, _, rfl⟩ := h
  intro x hx
  simp only [List.mem_cons, List.mem_append, Option.mem_toList] at hx
  rcases hx with rfl | (hx | hx) | hx
  · exact hp.inside
  · exact h0.lt x hx
  · exact h1.lt x hx
  · exact h2.lt x hx
theorem FreeIs.kept (h : FreeIs p w F l sq m k) (hk : Kept G w w') (hd : ∀ x ∈ F, x ∉ G) : FreeIs p w' F l sq m k := by
  obtain ⟨v0, v1, v2, hp, h0, h1, h2, h3, h4, rfl⟩ := h
  exact ⟨v0, v1, v2, hp.kept hk (hd p (by simp)), h0.kept hk (fun g hg => hd g (by simp [hg])), h1.kept hk (fun g hg => hd g (by simp [hg])), h2.kept hk (fun g hg => hd g (by simp [hg])), h3, h4, rfl⟩
theorem FreeIs.below (h : FreeIs p w F l sq m k) (hb : Below w.heap.size w w') : FreeIs p w' F l sq m k := h.kept (G := []) (Kept.of_below hb) (by simp)
theorem FreeIs.perm {l' k' : List Int} {m' : List Due} (h : FreeIs p w F l sq m k) (hl : l.Perm l') (hm : m.Perm m') (hk : k.Perm k') : FreeIs p w F l' sq m' k' := by
  obtain ⟨v0, v1, v2, hp, h0, h1, h2, h3, h4, rfl⟩ := h
  exact ⟨v0, v1, v2, hp, h0.perm hl, h1.perm hm, h2.perm hk, h3, h4, rfl⟩

/-- The free ones by themselves: who turns them turns nothing else. -/
theorem FreeIs.free (h : FreeIs p w F l sq m k) : ∃ (S : Spot 0) (F0 : List Nat), PileIs p S w F0 l ∧ (∀ x ∈ F0, x ∈ F) ∧
    ∀ w' F0' l', PileIs p S w' F0' l' → Goes F0 w F0' w' → ∃ F', FreeIs p w' F' l' sq m k ∧ Goes F w F' w' := by
  obtain ⟨v0, v1, v2, hp, h0, h1, h2, h3, h4, rfl⟩ := h
  refine ⟨spotF (.int .i64 sq) v1 v2, p :: v0.ownBlock.toList, pile_of (S := spotF (.int .i64 sq) v1 v2) hp h0, fun x hx => ?_, fun w' F0' l' hpi hgo => ?_⟩
  · simp at hx ⊢
    rcases hx with h | h <;> simp [h]
  · obtain ⟨u, hpu, hu, rfl⟩ := of_pile hpi
    have hne1 : ∀ g, v1.ownBlock = some g → g ∉ p :: v0.ownBlock.toList := fun g hg hin => by
      rcases List.mem_cons.1 hin with rfl | hin
      · exact h1.ne _ hg rfl
      · exact (h3 g (by simpa using hin)).1 hg
    have hne2 : ∀ g, v2.ownBlock = some g → g ∉ p :: v0.ownBlock.toList := fun g hg hin => by
      rcases List.mem_cons.1 hin with rfl | hin
      · exact h2.ne _ hg rfl
      · exact (h3 g (by simpa using hin)).2 hg
    have hub : ∀ g, u.ownBlock = some g → v0.ownBlock = some g ∨ w.heap.size ≤ g := fun g hg => by
      rcases hgo.2 g (by simp [hg]) with h | h
      · rcases List.mem_cons.1 h with rfl | h
        · exact absurd rfl (hu.ne _ hg)
        · exact .inl (by simpa using h)
      · exact .inr h
    refine ⟨_, ⟨u, v1, v2, hpu, hu, h1.kept hgo.1 hne1, h2.kept hgo.1 hne2, fun g hg => ?_, h4, rfl⟩, hgo.1.mono (fun x hx => .inl ?_), fun x hx => ?_⟩
    · rcases hub g hg with h | h
      · exact h3 g h
      · exact ⟨fun h' => by have := h1.lt g h'; omega, fun h' => by have := h2.lt g h'; omega⟩
    · simp at hx ⊢
      rcases hx with h | h <;> simp [h]
    · simp only [List.mem_cons, List.mem_append, Option.mem_toList] at hx ⊢
      rcases hx with rfl | (hx | hx) | hx
      · exact .inl (.inl rfl)
      · rcases hub x hx with h | h
        · exact .inl (.inr (.inl (.inl h)))
        · exact .inr h
      · exact .inl (.inr (.inl (.inr hx)))
      · exact .inl (.inr (.inr hx))

/-- Those that wait by themselves. -/
theorem FreeIs.waits (h : FreeIs p w F l sq m k) : ∃ (S : Spot2 1) (F0 : List Nat), LineIs p S sq w F0 m ∧ (∀ x ∈ F0, x ∈ F) ∧
    ∀ w' F0' sq' m', LineIs p S sq' w' F0' m' → Goes F0 w F0' w' → ∃ F', FreeIs p w' F' l sq' m' k ∧ Goes F w F' w' := by
  obtain ⟨v0, v1, v2, hp, h0, h1, h2, h3, h4, rfl⟩ := h
  refine ⟨spotW v0 v2, p :: v1.ownBlock.toList, line_of (S := spotW v0 v2) hp h1, fun x hx => ?_, fun w' F0' sq' m' hpi hgo => ?_⟩
  · simp at hx ⊢
    rcases hx with h | h <;> simp [h]
  · obtain ⟨u, hpu, hu, rfl⟩ := of_line hpi
    have hne0 : ∀ g, v0.ownBlock = some g → g ∉ p :: v1.ownBlock.toList := fun g hg hin => by
      rcases List.mem_cons.1 hin with rfl | hin
      · exact h0.ne _ hg rfl
      · exact (h3 g hg).1 (by simpa using hin)
    have hne2 : ∀ g, v2.ownBlock = some g → g ∉ p :: v1.ownBlock.toList := fun g hg hin => by
      rcases List.mem_cons.1 hin with rfl | hin
      · exact h2.ne _ hg rfl
      · exact h4 g (by simpa using hin) hg
    have hub : ∀ g, u.ownBlock = some g → v1.ownBlock = some g ∨ w.heap.size ≤ g := fun g hg => by
      rcases hgo.2 g (by simp [hg]) with h | h
      · rcases List.mem_cons.1 h with rfl | h
        · exact absurd rfl (hu.ne _ hg)
        · exact .inl (by simpa using h)
      · exact .inr h
    refine ⟨_, ⟨v0, u, v2, hpu, h0.kept hgo.1 hne0, hu, h2.kept hgo.1 hne2, fun g hg => ⟨fun h' => ?_, (h3 g hg).2⟩, fun g hg => ?_, rfl⟩, hgo.1.mono (fun x hx => .inl ?_), fun x hx => ?_⟩
    · rcases hub g h' with h | h
      · exact (h3 g hg).1 h
      · have := h0.lt g hg; omega
    · rcases hub g hg with h | h
      · exact h4 g h
      · exact fun h' => by have := h2.lt g h'; omega
    · simp at hx ⊢
      rcases hx with h | h <;> simp [h]
    · simp only [List.mem_cons, List.mem_append, Option.mem_toList] at hx ⊢
      rcases hx with rfl | (hx | hx) | hx
      · exact .inl (.inl rfl)
      · exact .inl (.inr (.inl (.inl hx)))
      · rcases hub x hx with h | h
        · exact .inl (.inr (.inl (.inr h)))
        · exact .inr h
      · exact .inl (.inr (.inr hx))

end
end Go.Proofs.YtpoocbkligjgbaaGreatDoor

namespace Go.Proofs.YtpoocbkligjgbaaGreatDoor
open Go.RowKit Go.Sort

/-- No two have one Seq. -/
def Distinct (m : List Due) : Prop := (m.map fun d => d.2.1).Nodup
theorem Distinct.perm {m n : List Due} (h : Distinct m) (hp : m.Perm n) : Distinct n := (hp.map _).nodup_iff.1 h




end Go.Proofs.YtpoocbkligjgbaaGreatDoor

namespace Go.Proofs.YtpoocbkligjgbaaGreatDoor
open Go.RowKit Go.Sort

section
variable {p : Nat} {w : World} {F : List Nat} {l k : List Int} {sq : Int} {m : List Due}


theorem ftake_none (h : FreeIs p w F [] sq m k) :
    Calls Tryz.prog 74 #[.pointer (some ⟨p, 0, none⟩)] w fun e w' => e = .returned (.tuple #[.int .i64 0, .bool false]) ∧ w' = w := by
  obtain ⟨S, F0, h0, _, hback⟩ := h.free
  have hc := take_none h0
  clear hback h0 h
  go_enter Tryz.func74, Tryz.ntmps74
  go_wp2_with fail
  refine hc.mono ?_
  rintro e w1 ⟨rfl, rfl⟩
  clear hc
  go_wp2_with fail
  go_ret2
  exact ⟨rfl, rfl⟩

theorem fback_any {v : Value} {xs : List Int} (h : FreeIs p w F l sq m k) (hv : ReadsO F w v (xs.map (.int .i64))) (hl : xs.length + l.length ≤ 1000000) :
    Calls Tryz.prog 51 #[.pointer (some ⟨p, 0, none⟩), v] w fun e w' => e = .returned (.tuple #[]) ∧ ∃ F', FreeIs p w' F' (xs ++ l) sq m k ∧ Goes F w F' w' := by
  obtain ⟨S, F0, h0, hsub, hback⟩ := h.free
  have hc := put_any h0 (hv.mono (fun x hx => .inl (hsub x hx))) hl
  obtain ⟨A, c, rfl, _⟩ := hv
  have HB := Lib.hid hback
  clear hback h0 h hl hsub
  generalize (xs.map (Value.int .i64)).length = n at *
  go_enter Tryz.func51, Tryz.ntmps51
  go_wp2_with fail
  refine hc.mono ?_
  rintro e w1 ⟨rfl, F', hpi, hk⟩
  have H := Lib.hid (And.intro hpi hk)
  clear hpi hk hc
  go_wp2_with fail
  go_end0
  exact ⟨rfl, HB.out _ _ _ H.out.1 H.out.2⟩






theorem fnew_any {v : Value} {l : List Int} (h : ReadsO [] w v (l.map (.int .i64))) (hl : l.length ≤ 1000000) :
    Calls Tryz.prog 82 #[v] w fun e w' => e = .returned (.pointer (some ⟨w.heap.size, 0, none⟩)) ∧ (∃ F, FreeIs w.heap.size w' F l 0 [] [] ∧ ∀ x ∈ F, w.heap.size ≤ x) ∧ Below w.heap.size w w' := by
  have hb0 : Below w.heap.size w (w.alloc (.cells #[.slice none 0 0, .int .i64 0, .slice none 0 0, .slice none 0 0] 104)) := (Below.refl _ _).alloc (Nat.le_refl _) _
  have h0 : FreeIs w.heap.size (w.alloc (.cells #[.slice none 0 0, .int .i64 0, .slice none 0 0, .slice none 0 0] 104)) [w.heap.size] [] 0 [] [] :=
    ⟨_, _, _, Has.made w _ _, NRow.nil _ _, DRow.nil _ _, NRow.nil _ _, by simp [Value.ownBlock], by simp [Value.ownBlock], rfl⟩
  have hro : ReadsO [w.heap.size] (w.alloc (.cells #[.slice none 0 0, .int .i64 0, .slice none 0 0, .slice none 0 0] 104)) v (l.map (.int .i64)) := by
    obtain ⟨A, c, rfl, h⟩ := h
    refine ⟨A, c, rfl, fun hn => ?_⟩
    obtain ⟨b, off, rfl, hlt, _, hc⟩ := h hn
    exact ⟨b, off, rfl, Nat.lt_of_lt_of_le hlt hb0.size, by simp; omega, fun j u hu => (hb0.cell (p := ⟨b, off + j, none⟩) hlt).trans (hc j u hu)⟩
  have hc := fback_any h0 hro (by simpa using hl)
  obtain ⟨A, c, rfl, _⟩ := h
  have HB := Lib.hid hb0
  clear h0 hro hb0 hl
  rw [List.append_nil] at hc
  rw [List.length_map] at *
  generalize l.length = n at *
  go_enter Tryz.func82, Tryz.ntmps82
  go_wp2_with fail
  refine hc.mono ?_
  rintro e w1 ⟨rfl, F', hf, hg⟩
  have H := Lib.hid (And.intro hf hg)
  clear hf hg hc
  go_wp2_with fail
  go_ret
  obtain ⟨hf, hg⟩ := H.out
  refine ⟨rfl, ⟨F', hf, fun x hx => (hg.2 x hx).elim (fun h => by simp at h; omega) (fun h => by have := HB.out.size; omega)⟩, HB.out.trans (hg.1.below (by have := HB.out.size; omega) (by simp))⟩
end
end Go.Proofs.YtpoocbkligjgbaaGreatDoor

namespace Go.Proofs.YtpoocbkligjgbaaGreatDoor
open Go.RowKit Go.Sort


def whats (m : List Due) : List Int := m.map fun d => d.2.2


section
variable {p : Nat} {w : World} {F : List Nat} {l k : List Int} {m : List Due}




end
end Go.Proofs.YtpoocbkligjgbaaGreatDoor

namespace Go.Proofs.YtpoocbkligjgbaaGreatDoor
open Go.RowKit

/-- A row: its element's type, how many cells an element has, the slice that stands for it, how many elements, its cells. -/
structure RowS where
  e : TypeId
  k : Nat
  v : Value
  n : Nat
  xs : List Value

def RowS.on (r : RowS) (w : World) : Prop := w.ownsRow 0 r.e r.k r.v r.n r.xs
def RowS.foot (r : RowS) : List Nat := r.v.ownBlock.toList
def foot (R : List RowS) : List Nat := R.flatMap RowS.foot

/-- Rows that share no block. -/
structure Rows (w : World) (R : List RowS) : Prop where
  all : ∀ r ∈ R, r.on w
  apart : (foot R).Nodup

section
variable {w w' : World} {R Q : List RowS} {r : RowS}
theorem mem_foot {g : Nat} : g ∈ foot R ↔ ∃ r ∈ R, r.v.ownBlock = some g := by
  unfold foot RowS.foot
  simp
theorem foot_append : foot (R ++ Q) = foot R ++ foot Q := by unfold foot; rw [List.flatMap_append]
theorem RowS.on.lt (h : r.on w) : ∀ k ∈ r.foot, k < w.heap.size := fun k hk => (World.ownsRow.lt h k (by simpa [RowS.foot] using hk)).2
theorem Rows.lt (h : Rows w R) : ∀ k ∈ foot R, k < w.heap.size := fun k hk => by
  obtain ⟨r, hr, hg⟩ := mem_foot.1 hk
  exact (World.ownsRow.lt (h.all r hr) k hg).2
theorem RowS.on.kept {F : List Nat} (h : r.on w) (hk : Kept F w w') (hd : ∀ g ∈ r.foot, g ∉ F) : r.on w' := row_kept h hk (fun g hg => hd g (by simp [RowS.foot, hg]))
theorem Rows.kept {F : List Nat} (h : Rows w R) (hk : Kept F w w') (hd : ∀ g ∈ foot R, g ∉ F) : Rows w' R :=
  ⟨fun r hr => (h.all r hr).kept hk (fun g hg => hd g (mem_foot.2 ⟨r, hr, by simpa [RowS.foot] using hg⟩)), h.apart⟩
theorem Rows.below (h : Rows w R) (hb : Below w.heap.size w w') : Rows w' R := h.kept (F := []) (Kept.of_below hb) (by simp)
theorem Rows.perm (h : Rows w R) (hp : R.Perm Q) : Rows w Q := ⟨fun r hr => h.all r (hp.mem_iff.2 hr), (hp.flatMap_right _).nodup_iff.1 h.apart⟩
theorem Rows.left (h : Rows w (R ++ Q)) : Rows w R := ⟨fun r hr => h.all r (by simp [hr]), by have := h.apart; rw [foot_append] at this; exact (List.nodup_append.1 this).1⟩
end

theorem row_base0 {w : World} {base : Nat} {e : TypeId} {k : Nat} {v : Value} {n : Nat} {xs : List Value} (h : w.ownsRow base e k v n xs) : w.ownsRow 0 e k v n xs := by
  refine ⟨h.1, ?_⟩
  rcases h.2 with hn | ⟨g, cap, cur, rfl, _, rest⟩
  · exact .inl hn
  · exact .inr ⟨g, cap, cur, rfl, Nat.zero_le _, rest⟩

section
variable {ops : Array Oper} {rest : List Oper} {o : Oper} {a : Act} {Q : Exit → Act → World → Prop}

/-- What an append leaves of a row of one's own: it stays in its block, or lies in a new one, and then nothing that was there has turned. -/
def Grown (w : World) (v v' : Value) (w' : World) : Prop :=
  Goes v.ownBlock.toList w v'.ownBlock.toList w' ∧ (v'.ownBlock = v.ownBlock ∨ Below w.heap.size w w')

theorem Grown.trans {w w1 w2 : World} {v v1 v2 : Value} (h : Grown w v v1 w1) (k : Grown w1 v1 v2 w2) : Goes v.ownBlock.toList w v2.ownBlock.toList w2 := h.1.trans k.1

/-- append(row, v...) of several cells each. -/
theorem run_append_keeps (P : Program) (t ty e : TypeId) (i : TypeInfo) (z : Value) (size bytes : Nat) (ht : P.underlying t = some (.slice e)) (hi : P.info? e = some i) (hz : i.zero = some z) (hsize : i.size = size) (hby : i.bytes = bytes) (hzs : z.cells.size = size) (hsz : 0 < size)
    (w : World) (v : Value) (n : Nat) (xs : List Value) (hown : w.ownsRow 0 e size v n xs) (ad : Addr) (m c : Nat) (news : List Value) (hl : news.length = m * size) (hnews : ∀ j u, news[j]? = some u → w.cell? (ad.add j) = some u) (h1 : ∀ u ∈ news, u.oneCell' = true)
    (hm : 0 < m) (h63 : n + m ≤ maxLen) (hbytes : (n + m) * bytes ≤ 140737488355328) :
    ∃ v' w', (Builtin.append_ #[t, t] ty #[v, .slice (some ad) m c]).run P w = .ok v' w' ∧ w'.ownsRow 0 e size v' (n + m) (xs ++ news) ∧ Grown w v v' w' := by
  rcases hown.2 with ⟨rfl, rfl⟩ | ⟨g, cap, cur, rfl, _, hg, hnc, hcm, hcs, htake⟩
  · have hxs : xs = [] := List.eq_nil_of_length_eq_zero (by simpa using hown.1)
    subst hxs
    obtain ⟨v', w', hr, h2, h3, _⟩ := run_append_own (P := P) w w.heap.size t ty e i z size bytes ht hi hz hsize hby hzs hsz (.slice none 0 0) 0 [] (World.ownsRow_nil _ _ _ _) ad m c news hl hnews h1 h63 hbytes (Nat.le_refl _)
    have hk : Kept [] w w' := Kept.of_grown h3 (fun k hk => by cases hk)
    refine ⟨v', w', hr, row_base0 h2, ⟨hk, fun k hk => .inr (h2.lt k (by simpa using hk)).1⟩, .inr ⟨h3.os, h3.tape, h3.output, h3.size, fun k hk => h3.block k hk (by simp [Value.ownBlock])⟩⟩
  · by_cases hroom : n + m ≤ cap
    · obtain ⟨w', hr, h2, h3⟩ := run_append_fits (P := P) w 0 t ty e i size ht hi hsize g n cap xs hown ad m c news hl hnews h1 hroom
      exact ⟨_, w', hr, h2, ⟨Kept.of_grown h3 (fun k hk => by cases hk; simp [Value.ownBlock]), fun k hk => .inl hk⟩, .inl rfl⟩
    · have holds := hown.cells (g := g) rfl
      have hl1 : xs.length = n * i.size := by rw [hsize]; exact hown.1
      have hr := run_append_grow (P := P) (w := w) t ty e i z ht hi hz ⟨g, 0, none⟩ n cap xs hl1 holds ad m c news (by rw [hsize]; exact hl) hnews (by omega) (by unfold maxLen at h63; omega) (growslice_fits (by omega) (by rw [hby]; exact hbytes))
      refine ⟨_, _, hr, ?_, ?_⟩
      · have hge := grownCap_ge w (n + m) cap e
        have hcm2 := grownCap_le_maxLen w (n + m) cap e h63
        generalize grownCap w (n + m) cap e = C at *
        have hlx : xs.length = n * size := hown.1
        refine ⟨by rw [List.length_append, hlx, hl, Nat.add_mul], .inr ⟨_, _, _, rfl, Nat.zero_le _, heap_alloc_new w.drew _, hge, hcm2, ?_, ?_⟩⟩
        · simp only [Array.size_append, List.size_toArray, size_zeroCells, hzs, hlx, hl, ← Nat.add_mul]
          congr 1
          omega
        · simp only [Array.toList_append, List.append_assoc]
          rw [← List.append_assoc, List.take_append_of_le_length (by rw [List.length_append, hlx, hl, ← Nat.add_mul]; exact Nat.le_refl _), List.take_of_length_le (by rw [List.length_append, hlx, hl, ← Nat.add_mul]; exact Nat.le_refl _)]
      · have hb : Below w.heap.size w (w.drew.alloc (.cells (xs.toArray ++ news.toArray ++ Builtin.zeroCells z.cells (grownCap w (n + m) cap e - (n + m))) e)) := ⟨rfl, rfl, rfl, by simp, fun k hk => Below.heap_alloc w.drew _ k hk⟩
        exact ⟨⟨Kept.of_below hb, fun k hk => .inr (by
          simp [Value.ownBlock] at hk
          subst hk
          exact Nat.le_refl _)⟩, .inr hb⟩

/-- The same, as an operation; the source may be empty. -/
theorem wp_append_keeps {P : Program} {K : Act → World → Prop} (s x : Operand) (t e : TypeId) (i : TypeInfo) (z : Value) (size bytes : Nat) (ht : P.underlying t = some (.slice e)) (hi : P.info? e = some i) (hz : i.zero = some z) (hsize : i.size = size) (hby : i.bytes = bytes) (hzs : z.cells.size = size) (hsz : 0 < size)
    (ho : o.op = .call { callee := .builtin .append, args := #[s, x], argTypes := #[t, t] })
    (w : World) (v : Value) (n : Nat) (xs : List Value) (hs : a.eval s = v) (hown : w.ownsRow 0 e size v n xs) (ad : Addr) (m c : Nat) (hx : a.eval x = .slice (some ad) m c) (news : List Value) (hl : news.length = m * size) (hnews : ∀ j u, news[j]? = some u → w.cell? (ad.add j) = some u) (h1 : ∀ u ∈ news, u.oneCell' = true)
    (hm : 0 < m) (h63 : n + m ≤ maxLen) (hbytes : (n + m) * bytes ≤ 140737488355328)
    (h : ∀ v' w', w'.ownsRow 0 e size v' (n + m) (xs ++ news) → Grown w v v' w' → K (a.put o.dst v') w') : o.wp P a w K Q := by
  obtain ⟨v', w', hr, h2, h3⟩ := run_append_keeps P t o.type e i z size bytes ht hi hz hsize hby hzs hsz w v n xs hown ad m c news hl hnews h1 hm h63 hbytes
  unfold Oper.wp execOp
  simp only [ho, resolve, invoke, builtin, Sem.run_bind, Sem.run_pure, Result.andThen_ok, List.map_toArray, List.map_cons, List.map_nil, hs, hx, hr]
  exact h v' w' h2 h3

theorem wpList_append_keeps (hgd : o.guard = none) (s x : Operand) (t e : TypeId) (i : TypeInfo) (z : Value) (size bytes : Nat) (ht : Tryz.prog.underlying t = some (.slice e)) (hi : Tryz.prog.info? e = some i) (hz : i.zero = some z) (hsize : i.size = size) (hby : i.bytes = bytes) (hzs : z.cells.size = size) (hsz : 0 < size)
    (ho : o.op = .call { callee := .builtin .append, args := #[s, x], argTypes := #[t, t] })
    (w : World) (v : Value) (n : Nat) (xs : List Value) (hs : a.eval s = v) (hown : w.ownsRow 0 e size v n xs) (ad : Addr) (m c : Nat) (hx : a.eval x = .slice (some ad) m c) (news : List Value) (hl : news.length = m * size) (hnews : ∀ j u, news[j]? = some u → w.cell? (ad.add j) = some u) (h1 : ∀ u ∈ news, u.oneCell' = true)
    (hm : 0 < m) (h63 : n + m ≤ maxLen) (hbytes : (n + m) * bytes ≤ 140737488355328)
    (h : ∀ v' w', w'.ownsRow 0 e size v' (n + m) (xs ++ news) → Grown w v v' w' → wpList Tryz.prog ops Q rest (a.put o.dst v') w') : wpList Tryz.prog ops Q (o :: rest) a w :=
  wpList_plain hgd fun _ hK => wp_append_keeps s x t e i z size bytes ht hi hz hsize hby hzs hsz ho w v n xs hs hown ad m c hx news hl hnews h1 hm h63 hbytes (fun v' w' h2 h3 => hK _ _ (h v' w' h2 h3))

end
end Go.Proofs.YtpoocbkligjgbaaGreatDoor

namespace Go.Proofs.YtpoocbkligjgbaaGreatDoor
open Go.RowKit

abbrev nilV : Value := .slice none 0 0
theorem row_raise {w : World} {base : Nat} {e : TypeId} {k : Nat} {v : Value} {n : Nat} {xs : List Value} (h : w.ownsRow 0 e k v n xs) (hb : ∀ g, v.ownBlock = some g → base ≤ g) : w.ownsRow base e k v n xs := by
  refine ⟨h.1, ?_⟩
  rcases h.2 with hn | ⟨g, cap, cur, rfl, _, rest⟩
  · exact .inl hn
  · exact .inr ⟨g, cap, cur, rfl, hb g rfl, rest⟩
theorem Grown.below {w w' : World} {v v' : Value} {base : Nat} (h : Grown w v v' w') (hb : base ≤ w.heap.size) (hv : ∀ g, v.ownBlock = some g → base ≤ g) : Below base w w' ∧ ∀ g, v'.ownBlock = some g → base ≤ g :=
  ⟨h.1.1.below hb (fun k hk => hv k (by simpa using hk)), fun g hg => (h.1.2 g (by simp [hg])).elim (fun h1 => hv g (by simpa using h1)) (fun h1 => by omega)⟩

def cellsI (l : List Int) : List Value := l.map (Value.int .i64)
end Go.Proofs.YtpoocbkligjgbaaGreatDoor
