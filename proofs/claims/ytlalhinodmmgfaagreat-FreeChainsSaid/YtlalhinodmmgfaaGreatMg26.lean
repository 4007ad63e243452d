/-
  A line in memory: what is due, three cells each; how two are compared. A line's five methods as a heap; its first one.
-/
import Derived.Test.YtlalhinodmmgfaaGreatMg25
import Derived.Test.YtlalhinodmmgfaaGreatMg9
import Derived.Deep.RegionHeld3
namespace Go.Proofs.YtlalhinodmmgfaaGreat
open Go.RowKit Go.Sort

/-- At, Seq, What. -/
abbrev Due := Int × Int × Int
def dcells (d : Due) : List Value := [.int .i64 d.1, .int .i64 d.2.1, .int .i64 d.2.2]
def dval (d : Due) : Value := .agg #[.int .i64 d.1, .int .i64 d.2.1, .int .i64 d.2.2]
def dlist (l : List Due) : List Value := l.flatMap dcells
def ltDue (a b : Due) : Bool := decide (a.1 < b.1 ∨ a.1 = b.1 ∧ a.2.1 < b.2.1)
def cmpDue (a b : Due) : Int := if Lib.compareInt a.1 b.1 ≠ 0 then Lib.compareInt a.1 b.1 else Lib.compareInt a.2.1 b.2.1

theorem cmpDue_lt (a b : Due) : decide (cmpDue a b < 0) = ltDue a b := by
  unfold cmpDue ltDue Lib.compareInt
  rcases Int.lt_trichotomy a.1 b.1 with h | h | h
  · simp [h]
  · rcases Int.lt_trichotomy a.2.1 b.2.1 with k | k | k
    · simp [h, k]
    · simp [h, k]
    · simp [h, show ¬ a.2.1 < b.2.1 by omega, k]
  · simp [show ¬ a.1 < b.1 by omega, h, show ¬ a.1 = b.1 by omega]

theorem swo_due : SWO ltDue where
  irrefl a := by simp [ltDue]
  trans a b c := by simp only [ltDue, decide_eq_true_eq]; omega
  ntrans a b c := by simp only [ltDue, decide_eq_false_iff_not]; omega

theorem length_dlist (l : List Due) : (dlist l).length = l.length * 3 := by
  induction l with
  | nil => rfl
  | cons d r ih => unfold dlist at *; rw [List.flatMap_cons, List.length_append, ih]; simp [dcells]; omega
theorem dlist_cons (d : Due) (r : List Due) : dlist (d :: r) = dcells d ++ dlist r := rfl
theorem dlist_append (l m : List Due) : dlist (l ++ m) = dlist l ++ dlist m := by unfold dlist; rw [List.flatMap_append]
theorem dlist_at : ∀ (l : List Due) (i j : Nat) (d : Due), l[i]? = some d → j < 3 → (dlist l)[i * 3 + j]? = (dcells d)[j]?
  | [], _, _, _, h, _ => by simp at h
  | x :: r, 0, j, d, h, hj => by
    obtain rfl : x = d := by simpa using h
    rw [dlist_cons, List.getElem?_append_left (by simp [dcells]; omega)]
    simp
  | x :: r, i + 1, j, d, h, hj => by
    rw [dlist_cons, List.getElem?_append_right (by simp [dcells]; omega)]
    rw [show (i + 1) * 3 + j - (dcells x).length = i * 3 + j by simp [dcells]; omega]
    exact dlist_at r i j d (by simpa using h) hj
theorem dlist_set : ∀ (l : List Due) (i : Nat) (d : Due), dlist (l.set i d) = (((dlist l).set (i * 3) (.int .i64 d.1)).set (i * 3 + 1) (.int .i64 d.2.1)).set (i * 3 + 2) (.int .i64 d.2.2)
  | [], _, _ => rfl
  | x :: r, 0, d => by
    rw [List.set_cons_zero, dlist_cons, dlist_cons]
    simp [dcells]
  | x :: r, i + 1, d => by
    rw [List.set_cons_succ, dlist_cons, dlist_cons, dlist_set r i d]
    have hl : (dcells x).length = 3 := by simp [dcells]
    rw [show (i + 1) * 3 = i * 3 + 3 by omega]
    rw [List.set_append_right _ _ (by omega), List.set_append_right _ _ (by omega), List.set_append_right _ _ (by omega), hl]
    congr 4 <;> omega

/-- Where a line stands: its count and its slice, in two cells of a block of type t, among other cells. -/
structure Spot2 (o : Nat) where
  t : TypeId
  K : Value → Value → Array Value
  get0 : ∀ s v, (K s v)[o]? = some s
  get1 : ∀ s v, (K s v)[o + 1]? = some v
  put0 : ∀ s v u, (K s v).setIfInBounds o u = K u v
  put1 : ∀ s v u, (K s v).setIfInBounds (o + 1) u = K s u

section
variable {w w' : World} {p o : Nat} {S : Spot2 o} {s v : Value}
theorem Has.spot0 (h : Has w p S.t (S.K s v)) : w.cell? ⟨p, o, none⟩ = some s := (h.cell o).trans (S.get0 s v)
theorem Has.spot1 (h : Has w p S.t (S.K s v)) : w.cell? ⟨p, o + 1, none⟩ = some v := (h.cell (o + 1)).trans (S.get1 s v)
theorem Has.respot0 (h : Has w p S.t (S.K s v)) (u : Value) : Has (w.setCell ⟨p, o, none⟩ u) p S.t (S.K u v) := by
  have := h.put o u
  rwa [S.put0] at this
theorem Has.respot1 (h : Has w p S.t (S.K s v)) (u : Value) : Has (w.setCell ⟨p, o + 1, none⟩ u) p S.t (S.K s u) := by
  have := h.put (o + 1) u
  rwa [S.put1] at this
end

/-- A line at cell o of p: its count and a row of its own, three cells each. -/
def DueAt (p : Nat) {o : Nat} (S : Spot2 o) (sq : Int) (w : World) (F : List Nat) (a : Array Due) : Prop :=
  ∃ v, Has w p S.t (S.K (.int .i64 sq) v) ∧ w.ownsRow 0 111 3 v a.size (dlist a.toList) ∧ (∀ g, v.ownBlock = some g → g ≠ p) ∧ F = p :: v.ownBlock.toList ∧ a.size ≤ 1000000

theorem DueAt.open {p o : Nat} {S : Spot2 o} {sq : Int} {w : World} {F : List Nat} {a : Array Due} (h : DueAt p S sq w F a) (h0 : 0 < a.size) :
    ∃ g cap, Has w p S.t (S.K (.int .i64 sq) (.slice (some ⟨g, 0, none⟩) a.size cap)) ∧ w.ownsRow 0 111 3 (.slice (some ⟨g, 0, none⟩) a.size cap) a.size (dlist a.toList) ∧ g ≠ p ∧ F = [p, g] ∧ a.size ≤ cap ∧ a.size ≤ 1000000 ∧ cap ≤ maxLen := by
  obtain ⟨v, hp, hr, hne, rfl, hs⟩ := h
  rcases hr.2 with ⟨_, h1⟩ | ⟨g, cap, cur, rfl, _, _, hc, hm, _⟩
  · omega
  · exact ⟨g, cap, hp, hr, hne g rfl, rfl, hc, hs, hm⟩

theorem row_kept3 {w w' : World} {F : List Nat} {base : Nat} {e : TypeId} {size : Nat} {v : Value} {n : Nat} {xs : List Value} (h : w.ownsRow base e size v n xs) (k : Kept F w w') (hn : ∀ g, v.ownBlock = some g → g ∉ F) : w'.ownsRow base e size v n xs := row_kept h k hn

theorem DueAt.lt {p o : Nat} {S : Spot2 o} {sq : Int} {w : World} {F : List Nat} {a : Array Due} (h : DueAt p S sq w F a) : ∀ k ∈ F, k < w.heap.size := by
  obtain ⟨v, hp, hr, hne, rfl, hs⟩ := h
  intro k hk
  rcases List.mem_cons.1 hk with rfl | hk
  · exact hp.inside
  · exact (hr.lt k (by simpa using hk)).2

theorem DueAt.kept {p o : Nat} {S : Spot2 o} {sq : Int} {w w' : World} {F G : List Nat} {a : Array Due} (h : DueAt p S sq w F a) (hk : Kept G w w') (hd : ∀ k ∈ F, k ∉ G) : DueAt p S sq w' F a := by
  obtain ⟨v, hp, hr, hne, rfl, hs⟩ := h
  exact ⟨v, hp.kept hk (hd p (by simp)), row_kept hr hk (fun g hg => hd g (by simp [hg])), hne, rfl, hs⟩

/-- The cells of one. -/
theorem due_range {w : World} {base g n cap : Nat} {a : Array Due} (hr : w.ownsRow base 111 3 (.slice (some ⟨g, 0, none⟩) n cap) n (dlist a.toList)) {i : Nat} (hi : i < a.size) : w.rangeAt g (i * 3) (dcells a[i]!) := by
  intro j v hv
  have hj : j < 3 := (List.getElem?_eq_some_iff.1 hv).1
  have hn : a.size = n := by have := hr.1; rw [length_dlist, Array.length_toList] at this; omega
  rw [hr.cellAt (i * 3 + j) (by omega), dlist_at _ i j _ (get_of hi) hj, hv]
theorem due_there {w : World} {base g n cap : Nat} {a : Array Due} (hr : w.ownsRow base 111 3 (.slice (some ⟨g, 0, none⟩) n cap) n (dlist a.toList)) {i : Nat} (hi : i < a.size) : w.there g (i * 3) 3 := by
  intro j hj
  have h1 := due_range hr hi
  exact ⟨h1.isSome j (by simpa [dcells] using hj), hr.frozenAt _⟩

theorem due_stored {w : World} {base g n cap : Nat} {l : List Due} (hr : w.ownsRow base 111 3 (.slice (some ⟨g, 0, none⟩) n cap) n (dlist l)) (i : Nat) (d : Due) :
    (w.setCells g (i * 3) (dcells d)).ownsRow base 111 3 (.slice (some ⟨g, 0, none⟩) n cap) n (dlist (l.set i d)) ∧ w.grownBy (w.setCells g (i * 3) (dcells d)) (some g) := by
  obtain ⟨h1, g1⟩ := hr.stored (i * 3) (.int .i64 d.1)
  obtain ⟨h2, g2⟩ := h1.stored (i * 3 + 1) (.int .i64 d.2.1)
  obtain ⟨h3, g3⟩ := h2.stored (i * 3 + 2) (.int .i64 d.2.2)
  rw [← dlist_set] at h3
  exact ⟨h3, grownBy_trans (grownBy_trans g1 g2) g3⟩

theorem dlen_any {p o : Nat} {S : Spot2 o} {sq : Int} {w : World} {F : List Nat} {a : Array Due} (h : DueAt p S sq w F a) : Calls Tryz.prog 176 #[.pointer (some ⟨p, o + 1, none⟩)] w fun e w' => e = .returned (.int .i64 (a.size : Nat)) ∧ w' = w := by
  obtain ⟨v, hp, hr, hne, rfl, hs⟩ := h
  have hc := hp.spot1
  obtain ⟨A, c, rfl⟩ := row_form hr
  clear hp hr hne
  generalize a.size = n at *
  go_enter Tryz.func176, Tryz.ntmps176
  go_wp2
  go_ret
  exact ⟨rfl, rfl⟩

/-- cmp.Or of two. -/
theorem or2_any (b : Nat) (x y : Int) (w : World) (h : Has w b 3 #[.int .i64 x, .int .i64 y]) :
    Calls Tryz.prog 182 #[.slice (some ⟨b, 0, none⟩) 2 2] w fun e w' => e = .returned (.int .i64 (if x ≠ 0 then x else y)) ∧ w' = w := by
  have c0 := h.cell 0
  have c1 := h.cell 1
  simp at c0 c1
  clear h
  obtain ⟨r, hr⟩ : ∃ r, (if x ≠ 0 then x else y) = r := ⟨_, rfl⟩
  rw [hr]
  have HR := Lib.hid hr
  clear hr
  by_cases hx : x = 0
  · have hx1 : (x != 0) = false := by simpa using hx
    by_cases hy : y = 0
    · have hy1 : (y != 0) = false := by simpa using hy
      have HX := Lib.hid (show r = 0 by rw [← HR.out]; simp [hx, hy])
      clear hx hy
      go_enter Tryz.func182, Tryz.ntmps182
      go_wp2_with fail
      go_loopg [8] 2 (fun g i wr => ∃ k : Nat, i = .int .i64 k ∧ k + g = 2 ∧ wr = w)
      case atStart => exact ⟨0, rfl, rfl, rfl⟩
      case round =>
        obtain ⟨k, rfl, hk, rfl⟩ := hrel
        rcases (show k = 0 ∨ k = 1 ∨ k = 2 by omega) with rfl | rfl | rfl
        · go_wp2
          go_roundg 1
          case measure => omega
          case rel => exact ⟨1, rfl, rfl, rfl⟩
        · go_wp2
          go_roundg 0
          case measure => omega
          case rel => exact ⟨2, rfl, rfl, rfl⟩
        · go_wp2
          go_ret
          exact ⟨by rw [HX.out]; rfl, rfl⟩
    · have hy1 : (y != 0) = true := by simpa using hy
      have HX := Lib.hid (show r = y by rw [← HR.out]; simp [hx])
      clear hx hy
      go_enter Tryz.func182, Tryz.ntmps182
      go_wp2_with fail
      go_loopg [8] 2 (fun g i wr => ∃ k : Nat, i = .int .i64 k ∧ k + g = 2 ∧ wr = w ∧ k < 2)
      case atStart => exact ⟨0, rfl, rfl, rfl, by omega⟩
      case round =>
        obtain ⟨k, rfl, hk, rfl, _⟩ := hrel
        rcases (show k = 0 ∨ k = 1 by omega) with rfl | rfl
        · go_wp2
          go_roundg 1
          case measure => omega
          case rel => exact ⟨1, rfl, rfl, rfl, by omega⟩
        · go_wp2
          go_ret
          exact ⟨by rw [HX.out]; rfl, rfl⟩
  · have hx1 : (x != 0) = true := by simpa using hx
    have HX := Lib.hid (show r = x by rw [← HR.out]; simp [hx])
    clear hx
    go_enter Tryz.func182, Tryz.ntmps182
    go_wp2_with fail
    go_loopg [8] 2 (fun g i wr => i = .int .i64 0 ∧ wr = w)
    case atStart => exact ⟨rfl, rfl⟩
    case round =>
      obtain ⟨rfl, rfl⟩ := hrel
      go_wp2
      go_ret
      exact ⟨by rw [HX.out]; rfl, rfl⟩

set_option maxRecDepth 100000 in
set_option maxHeartbeats 1000000 in
theorem order_more (a b : Due) (w : World) : Calls Tryz.prog 181 #[dval a, dval b] w fun e w' => e = .returned (.int .i64 (cmpDue a b)) ∧ Below w.heap.size w w' ∧ w.drawn ≤ w'.drawn := by
  have hor := fun (w' : World) (g : Nat) => or2_any g (Lib.compareInt a.1 b.1) (Lib.compareInt a.2.1 b.2.1) w'
  have HO := Lib.hid hor
  have HC := Lib.hid (show cmpDue a b = if Lib.compareInt a.1 b.1 ≠ 0 then Lib.compareInt a.1 b.1 else Lib.compareInt a.2.1 b.2.1 from rfl)
  have hc1 := fun w' => Tryz.cmp_Compare_int a.1 b.1 w'
  have hc2 := fun w' => Tryz.cmp_Compare_int a.2.1 b.2.1 w'
  have HC1 := Lib.hid hc1
  have HC2 := Lib.hid hc2
  unfold dval
  obtain ⟨a1, a2, a3⟩ := a
  obtain ⟨b1, b2, b3⟩ := b
  clear hor hc1 hc2
  simp only at HO HC HC1 HC2 ⊢
  generalize Lib.compareInt a1 b1 = r1 at *
  generalize Lib.compareInt a2 b2 = r2 at *
  generalize cmpDue (a1, a2, a3) (b1, b2, b3) = r at *
  have hA : Has ((w.alloc (.cells #[.int .i64 a1, .int .i64 a2, .int .i64 a3] 111)).alloc (.cells #[.int .i64 b1, .int .i64 b2, .int .i64 b3] 111)) w.heap.size 111 #[.int .i64 a1, .int .i64 a2, .int .i64 a3] := (Has.made w _ _).alloc _
  have hB : Has ((w.alloc (.cells #[.int .i64 a1, .int .i64 a2, .int .i64 a3] 111)).alloc (.cells #[.int .i64 b1, .int .i64 b2, .int .i64 b3] 111)) (w.heap.size + 1) 111 #[.int .i64 b1, .int .i64 b2, .int .i64 b3] := by
    have := Has.made (w.alloc (.cells #[.int .i64 a1, .int .i64 a2, .int .i64 a3] 111)) 111 #[.int .i64 b1, .int .i64 b2, .int .i64 b3]
    simpa using this
  have hbl : Below w.heap.size w ((w.alloc (.cells #[.int .i64 a1, .int .i64 a2, .int .i64 a3] 111)).alloc (.cells #[.int .i64 b1, .int .i64 b2, .int .i64 b3] 111)) :=
    ((Below.refl _ _).alloc (Nat.le_refl _) _).alloc (by simp) _
  have hdr : w.drawn ≤ ((w.alloc (.cells #[.int .i64 a1, .int .i64 a2, .int .i64 a3] 111)).alloc (.cells #[.int .i64 b1, .int .i64 b2, .int .i64 b3] 111)).drawn := Nat.le_refl _
  have HAB := Lib.hid (And.intro hA (And.intro hB (And.intro hbl hdr)))
  clear hA hB hbl hdr
  go_enter Tryz.func181, Tryz.ntmps181
  go_wp2_with fail
  obtain ⟨hA, hB, hbl, hdr⟩ := HAB.out
  clear HAB
  generalize (w.alloc (.cells #[.int .i64 a1, .int .i64 a2, .int .i64 a3] 111)).alloc (.cells #[.int .i64 b1, .int .i64 b2, .int .i64 b3] 111) = W at *
  have hS : W.drew.cell? ⟨w.heap.size, 0, none⟩ = some (.int .i64 a1) ∧ W.drew.cell? ⟨w.heap.size, 1, none⟩ = some (.int .i64 a2) ∧ W.drew.cell? ⟨w.heap.size + 1, 0, none⟩ = some (.int .i64 b1) ∧ W.drew.cell? ⟨w.heap.size + 1, 1, none⟩ = some (.int .i64 b2) :=
    ⟨hA.cell 0, hA.cell 1, hB.cell 0, hB.cell 1⟩
  have hle := hbl.size
  have HB := Lib.hid (And.intro hbl hdr)
  clear hA hB hbl hdr
  refine wp_region_tills (fun w' => w'.cell? ⟨w.heap.size, 0, none⟩ = some (.int .i64 a1) ∧ w'.cell? ⟨w.heap.size, 1, none⟩ = some (.int .i64 a2) ∧ w'.cell? ⟨w.heap.size + 1, 0, none⟩ = some (.int .i64 b1) ∧ w'.cell? ⟨w.heap.size + 1, 1, none⟩ = some (.int .i64 b2)) 10 (by kernel_rfl) ?_
  refine till_takeAt 5 (i := 0) (v := .pointer (some ⟨w.heap.size, 0, none⟩)) rfl rfl (by kernel_rfl) (by kernel_rfl) (by kernel_rfl) (by kernel_rfl) (by kernel_rfl) (fun _ _ _ h => h) (Or.inl ⟨by rfl, fun w' hw' => by obtain ⟨q1, q2, q3, q4⟩ := hw'; go_simp⟩) hS ?_
  simp only [List.setIfInBounds_toArray, List.set_cons_zero, List.set_cons_succ]
  refine till_takeAt 6 (i := 1) (v := .int .i64 a1) rfl rfl (by kernel_rfl) (by kernel_rfl) (by kernel_rfl) (by kernel_rfl) (by kernel_rfl) (fun _ _ _ h => h) (Or.inl ⟨by rfl, fun w' hw' => by obtain ⟨q1, q2, q3, q4⟩ := hw'; go_simp⟩) hS ?_
  simp only [List.setIfInBounds_toArray, List.set_cons_zero, List.set_cons_succ]
  refine till_takeAt 7 (i := 2) (v := .pointer (some ⟨w.heap.size + 1, 0, none⟩)) rfl rfl (by kernel_rfl) (by kernel_rfl) (by kernel_rfl) (by kernel_rfl) (by kernel_rfl) (fun _ _ _ h => h) (Or.inl ⟨by rfl, fun w' hw' => by obtain ⟨q1, q2, q3, q4⟩ := hw'; go_simp⟩) hS ?_
  simp only [List.setIfInBounds_toArray, List.set_cons_zero, List.set_cons_succ]
  refine till_takeAt 8 (i := 3) (v := .int .i64 b1) rfl rfl (by kernel_rfl) (by kernel_rfl) (by kernel_rfl) (by kernel_rfl) (by kernel_rfl) (fun _ _ _ h => h) (Or.inl ⟨by rfl, fun w' hw' => by obtain ⟨q1, q2, q3, q4⟩ := hw'; go_simp⟩) hS ?_
  simp only [List.setIfInBounds_toArray, List.set_cons_zero, List.set_cons_succ]
  refine till_takeAt 10 (i := 5) (v := .pointer (some ⟨w.heap.size, 1, none⟩)) rfl rfl (by kernel_rfl) (by kernel_rfl) (by kernel_rfl) (by kernel_rfl) (by kernel_rfl) (fun _ _ _ h => h) (Or.inl ⟨by rfl, fun w' hw' => by obtain ⟨q1, q2, q3, q4⟩ := hw'; go_simp⟩) hS ?_
  simp only [List.setIfInBounds_toArray, List.set_cons_zero, List.set_cons_succ]
  refine till_takeAt 11 (i := 6) (v := .int .i64 a2) rfl rfl (by kernel_rfl) (by kernel_rfl) (by kernel_rfl) (by kernel_rfl) (by kernel_rfl) (fun _ _ _ h => h) (Or.inl ⟨by rfl, fun w' hw' => by obtain ⟨q1, q2, q3, q4⟩ := hw'; go_simp⟩) hS ?_
  simp only [List.setIfInBounds_toArray, List.set_cons_zero, List.set_cons_succ]
  refine till_takeAt 12 (i := 7) (v := .pointer (some ⟨w.heap.size + 1, 1, none⟩)) rfl rfl (by kernel_rfl) (by kernel_rfl) (by kernel_rfl) (by kernel_rfl) (by kernel_rfl) (fun _ _ _ h => h) (Or.inl ⟨by rfl, fun w' hw' => by obtain ⟨q1, q2, q3, q4⟩ := hw'; go_simp⟩) hS ?_
  simp only [List.setIfInBounds_toArray, List.set_cons_zero, List.set_cons_succ]
  refine till_takeAt 13 (i := 8) (v := .int .i64 b2) rfl rfl (by kernel_rfl) (by kernel_rfl) (by kernel_rfl) (by kernel_rfl) (by kernel_rfl) (fun _ _ _ h => h) (Or.inl ⟨by rfl, fun w' hw' => by obtain ⟨q1, q2, q3, q4⟩ := hw'; go_simp⟩) hS ?_
  simp only [List.setIfInBounds_toArray, List.set_cons_zero, List.set_cons_succ]
  refine till_one (i := 4) (by kernel_rfl) rfl rfl (fun K hK => ?_)
  go_simp
  refine (HC1.out _).mono ?_
  rintro e w' ⟨rfl, rfl⟩
  refine hK _ _ ⟨fun _ => hS, ?_⟩
  clear hK K
  refine till_one (i := 9) (by kernel_rfl) rfl rfl (fun K hK => ?_)
  go_simp
  refine (HC2.out _).mono ?_
  rintro e w' ⟨rfl, rfl⟩
  refine hK _ _ ⟨fun _ => hS, ?_⟩
  clear hK K hS
  refine till_one (i := 10) (by kernel_rfl) rfl rfl (fun K hK => ?_)
  go_simp
  refine hK _ _ ⟨fun h => absurd h (by omega), ?_⟩
  clear hK K
  have hH : Has (W.alloc (.cells #[.int .i64 r1, .int .i64 r2] 3)).drew W.heap.size 3 #[.int .i64 r1, .int .i64 r2] := (Has.made W _ _)
  have ho := HO.out _ _ hH
  rw [← HC.out] at ho
  refine till_one (i := 11) (by kernel_rfl) rfl rfl (fun K hK => ?_)
  go_simp
  refine ho.mono ?_
  rintro e w' ⟨rfl, rfl⟩
  refine hK _ _ ⟨fun h => absurd h (by omega), ?_⟩
  clear hK K ho hH
  refine till_one (i := 12) (by kernel_rfl) rfl rfl (fun K hK => ?_)
  go_simp
  refine hK _ _ ⟨fun h => absurd h (by omega), till_done (by kernel_rfl) ?_ _⟩
  clear hK K
  go_wp2
  go_ret
  exact ⟨rfl, (HB.out.1.alloc hle _).drew, Nat.le_succ_of_le HB.out.2⟩

theorem order_any (a b : Due) (w : World) : Calls Tryz.prog 181 #[dval a, dval b] w fun e w' => e = .returned (.int .i64 (cmpDue a b)) ∧ Below w.heap.size w w' :=
  (order_more a b w).mono fun _ _ h => ⟨h.1, h.2.1⟩
end Go.Proofs.YtlalhinodmmgfaaGreat

namespace Go.Proofs.YtlalhinodmmgfaaGreat
open Go.RowKit Go.Sort

theorem Tryz.sizeDue : (Tryz.prog.info? 111).map (·.size) = some 3 := by kernel_rfl

theorem dval_agg (d : Due) : dval d = .agg (dcells d).toArray := rfl
theorem dcells_one (d : Due) : ∀ v ∈ dcells d, v.oneCell' = true := by
  intro v hv
  simp only [dcells, List.mem_cons, List.not_mem_nil, or_false] at hv
  rcases hv with rfl | rfl | rfl <;> rfl

set_option maxRecDepth 100000 in
set_option maxHeartbeats 1000000 in
theorem qless_any {p o : Nat} {S : Spot2 o} {sq : Int} {w : World} {F : List Nat} {a : Array Due} (i j : Nat) (h : DueAt p S sq w F a) (hi : i < a.size) (hj : j < a.size) :
    Calls Tryz.prog 177 #[.pointer (some ⟨p, o + 1, none⟩), .int .i64 i, .int .i64 j] w fun e w' => e = .returned (.bool (ltDue a[i]! a[j]!)) ∧ DueAt p S sq w' F a ∧ Kept F w w' := by
  obtain ⟨g, cap, hp, hr, hne, rfl, hcap, hs, hm⟩ := h.open (by omega)
  have hc : w.drew.cell? ⟨p, o + 1, none⟩ = some (.slice (some ⟨g, 0, none⟩) a.size cap) := hp.spot1
  have ri : w.drew.rangeAt g (i * 3) (dcells a[i]!) := (World.rangeAt_drew _ _ _ _).2 (due_range hr hi)
  have rj : w.drew.rangeAt g (j * 3) (dcells a[j]!) := (World.rangeAt_drew _ _ _ _).2 (due_range hr hj)
  have H := Lib.hid h
  have HO := Lib.hid (order_any a[i]! a[j]! w.drew)
  have HL := Lib.hid (cmpDue_lt a[i]! a[j]!)
  generalize a[i]! = x at *
  generalize a[j]! = y at *
  generalize cmpDue x y = z at *
  generalize ltDue x y = t at *
  clear h hp hr
  generalize hn : a.size = n at *
  clear hn
  have i0 : (0 : Int) ≤ (i : Int) := by omega
  have j0 : (0 : Int) ≤ (j : Int) := by omega
  have i1 : (i : Int) < (n : Int) := by omega
  have j1 : (j : Int) < (n : Int) := by omega
  have hz := Tryz.sizeDue
  have HZ := Lib.hid hz
  clear hz
  have hS : w.drew.cell? ⟨p, o + 1, none⟩ = some (.slice (some ⟨g, 0, none⟩) n cap) ∧ w.drew.rangeAt g (i * 3) (dcells x) ∧ w.drew.rangeAt g (j * 3) (dcells y) := ⟨hc, ri, rj⟩
  clear hc ri rj
  go_enter Tryz.func177, Tryz.ntmps177
  go_wp2_with fail
  refine wp_region_tills (fun w' => w'.cell? ⟨p, o + 1, none⟩ = some (.slice (some ⟨g, 0, none⟩) n cap) ∧ w'.rangeAt g (i * 3) (dcells x) ∧ w'.rangeAt g (j * 3) (dcells y)) 16 (by kernel_rfl) ?_
  refine till_takeAt 7 (i := 0) (v := .pointer (some ⟨p, o + 1, none⟩)) rfl rfl (by kernel_rfl) (by kernel_rfl) (by kernel_rfl) (by kernel_rfl) (by kernel_rfl) (fun _ _ _ h => h) (Or.inl ⟨by rfl, fun w' hw' => by obtain ⟨q1, q2, q3⟩ := hw'; go_simp⟩) hS ?_
  simp only [List.setIfInBounds_toArray, List.set_cons_zero, List.set_cons_succ]
  refine till_takeAt 8 (i := 1) (v := .pointer (some ⟨p, o + 1, none⟩)) rfl rfl (by kernel_rfl) (by kernel_rfl) (by kernel_rfl) (by kernel_rfl) (by kernel_rfl) (fun _ _ _ h => h) (Or.inl ⟨by rfl, fun w' hw' => by obtain ⟨q1, q2, q3⟩ := hw'; go_simp⟩) hS ?_
  simp only [List.setIfInBounds_toArray, List.set_cons_zero, List.set_cons_succ]
  refine till_takeAt 9 (i := 2) (v := .pointer (some ⟨p, o + 1, none⟩)) rfl rfl (by kernel_rfl) (by kernel_rfl) (by kernel_rfl) (by kernel_rfl) (by kernel_rfl) (fun _ _ _ h => h) (Or.inl ⟨by rfl, fun w' hw' => by obtain ⟨q1, q2, q3⟩ := hw'; go_simp⟩) hS ?_
  simp only [List.setIfInBounds_toArray, List.set_cons_zero, List.set_cons_succ]
  refine till_takeAt 10 (i := 3) (v := .pointer (some ⟨p, o + 1, none⟩)) rfl rfl (by kernel_rfl) (by kernel_rfl) (by kernel_rfl) (by kernel_rfl) (by kernel_rfl) (fun _ _ _ h => h) (Or.inl ⟨by rfl, fun w' hw' => by obtain ⟨q1, q2, q3⟩ := hw'; go_simp⟩) hS ?_
  simp only [List.setIfInBounds_toArray, List.set_cons_zero, List.set_cons_succ]
  refine till_takeAt 11 (i := 4) (v := .slice (some ⟨g, 0, none⟩) n cap) rfl rfl (by kernel_rfl) (by kernel_rfl) (by kernel_rfl) (by kernel_rfl) (by kernel_rfl) (fun _ _ _ h => h) (Or.inl ⟨by rfl, fun w' hw' => by obtain ⟨q1, q2, q3⟩ := hw'; go_simp⟩) hS ?_
  simp only [List.setIfInBounds_toArray, List.set_cons_zero, List.set_cons_succ]
  refine till_takeAt 12 (i := 5) (v := .int .i64 i) rfl rfl (by kernel_rfl) (by kernel_rfl) (by kernel_rfl) (by kernel_rfl) (by kernel_rfl) (fun _ _ _ h => h) (Or.inl ⟨by rfl, fun w' hw' => by obtain ⟨q1, q2, q3⟩ := hw'; go_simp⟩) hS ?_
  simp only [List.setIfInBounds_toArray, List.set_cons_zero, List.set_cons_succ]
  refine till_takeAt 13 (i := 6) (v := .pointer (some ⟨g, i * 3, none⟩)) rfl rfl (by kernel_rfl) (by kernel_rfl) (by kernel_rfl) (by kernel_rfl) (by kernel_rfl) (fun _ _ _ h => h) (Or.inl ⟨by rfl, fun w' hw' => by obtain ⟨q1, q2, q3⟩ := hw'; go_simp⟩) hS ?_
  simp only [List.setIfInBounds_toArray, List.set_cons_zero, List.set_cons_succ]
  refine till_takeAt 14 (i := 7) (v := .agg (dcells x).toArray) rfl rfl (by kernel_rfl) (by kernel_rfl) (by kernel_rfl) (by kernel_rfl) (by kernel_rfl) (fun _ _ _ h => h) (yields_mid rfl 111 (.tmp 13) rfl g (i * 3) (by rfl) (dcells x) _ (fun w' h => h.2.1) Tryz.underlying111 rfl HZ.out) hS ?_
  simp only [List.setIfInBounds_toArray, List.set_cons_zero, List.set_cons_succ]
  refine till_takeAt 15 (i := 8) (v := .pointer (some ⟨p, o + 1, none⟩)) rfl rfl (by kernel_rfl) (by kernel_rfl) (by kernel_rfl) (by kernel_rfl) (by kernel_rfl) (fun _ _ _ h => h) (Or.inl ⟨by rfl, fun w' hw' => by obtain ⟨q1, q2, q3⟩ := hw'; go_simp⟩) hS ?_
  simp only [List.setIfInBounds_toArray, List.set_cons_zero, List.set_cons_succ]
  refine till_takeAt 16 (i := 9) (v := .pointer (some ⟨p, o + 1, none⟩)) rfl rfl (by kernel_rfl) (by kernel_rfl) (by kernel_rfl) (by kernel_rfl) (by kernel_rfl) (fun _ _ _ h => h) (Or.inl ⟨by rfl, fun w' hw' => by obtain ⟨q1, q2, q3⟩ := hw'; go_simp⟩) hS ?_
  simp only [List.setIfInBounds_toArray, List.set_cons_zero, List.set_cons_succ]
  refine till_takeAt 17 (i := 10) (v := .pointer (some ⟨p, o + 1, none⟩)) rfl rfl (by kernel_rfl) (by kernel_rfl) (by kernel_rfl) (by kernel_rfl) (by kernel_rfl) (fun _ _ _ h => h) (Or.inl ⟨by rfl, fun w' hw' => by obtain ⟨q1, q2, q3⟩ := hw'; go_simp⟩) hS ?_
  simp only [List.setIfInBounds_toArray, List.set_cons_zero, List.set_cons_succ]
  refine till_takeAt 18 (i := 11) (v := .pointer (some ⟨p, o + 1, none⟩)) rfl rfl (by kernel_rfl) (by kernel_rfl) (by kernel_rfl) (by kernel_rfl) (by kernel_rfl) (fun _ _ _ h => h) (Or.inl ⟨by rfl, fun w' hw' => by obtain ⟨q1, q2, q3⟩ := hw'; go_simp⟩) hS ?_
  simp only [List.setIfInBounds_toArray, List.set_cons_zero, List.set_cons_succ]
  refine till_takeAt 19 (i := 12) (v := .slice (some ⟨g, 0, none⟩) n cap) rfl rfl (by kernel_rfl) (by kernel_rfl) (by kernel_rfl) (by kernel_rfl) (by kernel_rfl) (fun _ _ _ h => h) (Or.inl ⟨by rfl, fun w' hw' => by obtain ⟨q1, q2, q3⟩ := hw'; go_simp⟩) hS ?_
  simp only [List.setIfInBounds_toArray, List.set_cons_zero, List.set_cons_succ]
  refine till_takeAt 20 (i := 13) (v := .int .i64 j) rfl rfl (by kernel_rfl) (by kernel_rfl) (by kernel_rfl) (by kernel_rfl) (by kernel_rfl) (fun _ _ _ h => h) (Or.inl ⟨by rfl, fun w' hw' => by obtain ⟨q1, q2, q3⟩ := hw'; go_simp⟩) hS ?_
  simp only [List.setIfInBounds_toArray, List.set_cons_zero, List.set_cons_succ]
  refine till_takeAt 21 (i := 14) (v := .pointer (some ⟨g, j * 3, none⟩)) rfl rfl (by kernel_rfl) (by kernel_rfl) (by kernel_rfl) (by kernel_rfl) (by kernel_rfl) (fun _ _ _ h => h) (Or.inl ⟨by rfl, fun w' hw' => by obtain ⟨q1, q2, q3⟩ := hw'; go_simp⟩) hS ?_
  simp only [List.setIfInBounds_toArray, List.set_cons_zero, List.set_cons_succ]
  refine till_takeAt 22 (i := 15) (v := .agg (dcells y).toArray) rfl rfl (by kernel_rfl) (by kernel_rfl) (by kernel_rfl) (by kernel_rfl) (by kernel_rfl) (fun _ _ _ h => h) (yields_mid rfl 111 (.tmp 21) rfl g (j * 3) (by rfl) (dcells y) _ (fun w' h => h.2.2) Tryz.underlying111 rfl HZ.out) hS ?_
  simp only [List.setIfInBounds_toArray, List.set_cons_zero, List.set_cons_succ]
  clear hS
  refine till_one (i := 16) (by kernel_rfl) rfl rfl (fun K hK => ?_)
  go_simp
  refine HO.out.mono ?_
  rintro e w1 ⟨rfl, hb⟩
  refine hK _ _ ⟨fun h => absurd h (by omega), ?_⟩
  clear hK K
  have hk : Kept [p, g] w w1 := (Kept.refl _ _).drew.trans (Kept.of_below hb)
  have HF := Lib.hid (And.intro (H.out.kept (G := []) ((Kept.refl [] w).drew.trans (Kept.of_below hb)) (by simp)) hk)
  clear hb hk
  refine till_one (i := 17) (by kernel_rfl) rfl rfl (fun K hK => ?_)
  go_simp
  refine hK _ _ ⟨fun h => absurd h (by omega), ?_⟩
  clear hK K
  refine till_one (i := 18) (by kernel_rfl) rfl rfl (fun K hK => ?_)
  go_simp
  refine hK _ _ ⟨fun h => absurd h (by omega), till_done (by kernel_rfl) ?_ _⟩
  clear hK K
  go_wp2
  go_ret
  exact ⟨by rw [← HL.out]; rfl, HF.out.1, HF.out.2⟩

theorem toList_swp {α : Type} [Inhabited α] (a : Array α) (i j : Nat) : (swp a i j).toList = (a.toList.set i a[j]!).set j a[i]! := by
  unfold swp
  simp

set_option maxRecDepth 100000 in
set_option maxHeartbeats 1000000 in
theorem qswap_any {p o : Nat} {S : Spot2 o} {sq : Int} {w : World} {F : List Nat} {a : Array Due} (i j : Nat) (h : DueAt p S sq w F a) (hi : i < a.size) (hj : j < a.size) :
    Calls Tryz.prog 180 #[.pointer (some ⟨p, o + 1, none⟩), .int .i64 i, .int .i64 j] w fun e w' => e = .returned (.tuple #[]) ∧ DueAt p S sq w' F (swp a i j) ∧ Kept F w w' := by
  obtain ⟨g, cap, hp, hr, hne, rfl, hcap, hs, hm⟩ := h.open (by omega)
  have hc : w.drew.cell? ⟨p, o + 1, none⟩ = some (.slice (some ⟨g, 0, none⟩) a.size cap) := hp.spot1
  have ri : w.drew.rangeAt g (i * 3) (dcells a[i]!) := (World.rangeAt_drew _ _ _ _).2 (due_range hr hi)
  have rj : w.drew.rangeAt g (j * 3) (dcells a[j]!) := (World.rangeAt_drew _ _ _ _).2 (due_range hr hj)
  have ti : w.drew.there g (i * 3) 3 := (World.there_drew _ _ _ _).2 (due_there hr hi)
  have tj : w.drew.there g (j * 3) 3 := (World.there_drew _ _ _ _).2 (due_there hr hj)
  have hrd := hr.drew
  obtain ⟨hr1, hg1⟩ := due_stored hrd i a[j]!
  obtain ⟨hr2, hg2⟩ := due_stored hr1 j a[i]!
  rw [← toList_swp] at hr2
  have hk : Kept [p, g] w ((w.drew.setCells g (i * 3) (dcells a[j]!)).setCells g (j * 3) (dcells a[i]!)) :=
    (Kept.refl _ _).drew.trans ((Kept.of_grown hg1 (fun k hk => by simp_all)).trans (Kept.of_grown hg2 (fun k hk => by simp_all)))
  have hkg : Kept [g] w ((w.drew.setCells g (i * 3) (dcells a[j]!)).setCells g (j * 3) (dcells a[i]!)) :=
    (Kept.refl _ _).drew.trans ((Kept.of_grown hg1 (fun k hk => by simp_all)).trans (Kept.of_grown hg2 (fun k hk => by simp_all)))
  have hsz : (swp a i j).size = a.size := size_swp _ _ _
  have hfin : DueAt p S sq ((w.drew.setCells g (i * 3) (dcells a[j]!)).setCells g (j * 3) (dcells a[i]!)) [p, g] (swp a i j) :=
    ⟨_, hp.kept hkg (by simpa using Ne.symm hne), by rw [hsz]; exact hr2, by simpa [Value.ownBlock] using hne, rfl, by omega⟩
  have HF := Lib.hid (And.intro hfin hk)
  have tj1 : (w.drew.setCells g (i * 3) (dcells a[j]!)).there g (j * 3) 3 := World.there_setCells tj _ _ _
  generalize a[i]! = x at *
  generalize a[j]! = y at *
  clear h hp hr hrd hr1 hr2 hg1 hg2 hk hkg hfin hsz tj
  generalize hn : a.size = n at *
  clear hn
  have i0 : (0 : Int) ≤ (i : Int) := by omega
  have j0 : (0 : Int) ≤ (j : Int) := by omega
  have i1 : (i : Int) < (n : Int) := by omega
  have j1 : (j : Int) < (n : Int) := by omega
  have HZ := Lib.hid Tryz.sizeDue
  have hT : True := trivial
  have hS : w.drew.cell? ⟨p, o + 1, none⟩ = some (.slice (some ⟨g, 0, none⟩) n cap) ∧ w.drew.rangeAt g (i * 3) (dcells x) ∧ w.drew.rangeAt g (j * 3) (dcells y) := ⟨hc, ri, rj⟩
  clear hc ri rj
  go_enter Tryz.func180, Tryz.ntmps180
  refine wp_region_tills (fun _ => True) 27 (by kernel_rfl) ?_
  refine till_takeAt 15 (i := 9) (v := .int .i64 j) rfl rfl (by kernel_rfl) (by kernel_rfl) (by kernel_rfl) (by kernel_rfl) (by kernel_rfl) (fun _ _ _ h => h) (Or.inl ⟨by rfl, fun w' hw' => by obtain q1 := hw'; go_simp⟩) hT ?_
  simp only [List.setIfInBounds_toArray, List.set_cons_zero, List.set_cons_succ]
  refine till_turn (S := fun w' => w'.cell? ⟨p, o + 1, none⟩ = some (.slice (some ⟨g, 0, none⟩) n cap) ∧ w'.rangeAt g (i * 3) (dcells x) ∧ w'.rangeAt g (j * 3) (dcells y)) (last := 25) 27 _ _ _ _ ?_
  refine till_takeAt 6 (i := 0) (v := .pointer (some ⟨p, o + 1, none⟩)) rfl rfl (by kernel_rfl) (by kernel_rfl) (by kernel_rfl) (by kernel_rfl) (by kernel_rfl) (fun _ _ _ h => h) (Or.inl ⟨by rfl, fun w' hw' => by obtain ⟨q1, q2, q3⟩ := hw'; go_simp⟩) hS ?_
  simp only [List.setIfInBounds_toArray, List.set_cons_zero, List.set_cons_succ]
  refine till_takeAt 7 (i := 1) (v := .pointer (some ⟨p, o + 1, none⟩)) rfl rfl (by kernel_rfl) (by kernel_rfl) (by kernel_rfl) (by kernel_rfl) (by kernel_rfl) (fun _ _ _ h => h) (Or.inl ⟨by rfl, fun w' hw' => by obtain ⟨q1, q2, q3⟩ := hw'; go_simp⟩) hS ?_
  simp only [List.setIfInBounds_toArray, List.set_cons_zero, List.set_cons_succ]
  refine till_takeAt 8 (i := 2) (v := .pointer (some ⟨p, o + 1, none⟩)) rfl rfl (by kernel_rfl) (by kernel_rfl) (by kernel_rfl) (by kernel_rfl) (by kernel_rfl) (fun _ _ _ h => h) (Or.inl ⟨by rfl, fun w' hw' => by obtain ⟨q1, q2, q3⟩ := hw'; go_simp⟩) hS ?_
  simp only [List.setIfInBounds_toArray, List.set_cons_zero, List.set_cons_succ]
  refine till_takeAt 9 (i := 3) (v := .slice (some ⟨g, 0, none⟩) n cap) rfl rfl (by kernel_rfl) (by kernel_rfl) (by kernel_rfl) (by kernel_rfl) (by kernel_rfl) (fun _ _ _ h => h) (Or.inl ⟨by rfl, fun w' hw' => by obtain ⟨q1, q2, q3⟩ := hw'; go_simp⟩) hS ?_
  simp only [List.setIfInBounds_toArray, List.set_cons_zero, List.set_cons_succ]
  refine till_takeAt 10 (i := 4) (v := .int .i64 i) rfl rfl (by kernel_rfl) (by kernel_rfl) (by kernel_rfl) (by kernel_rfl) (by kernel_rfl) (fun _ _ _ h => h) (Or.inl ⟨by rfl, fun w' hw' => by obtain ⟨q1, q2, q3⟩ := hw'; go_simp⟩) hS ?_
  simp only [List.setIfInBounds_toArray, List.set_cons_zero, List.set_cons_succ]
  refine till_takeAt 11 (i := 5) (v := .pointer (some ⟨p, o + 1, none⟩)) rfl rfl (by kernel_rfl) (by kernel_rfl) (by kernel_rfl) (by kernel_rfl) (by kernel_rfl) (fun _ _ _ h => h) (Or.inl ⟨by rfl, fun w' hw' => by obtain ⟨q1, q2, q3⟩ := hw'; go_simp⟩) hS ?_
  simp only [List.setIfInBounds_toArray, List.set_cons_zero, List.set_cons_succ]
  refine till_takeAt 12 (i := 6) (v := .pointer (some ⟨p, o + 1, none⟩)) rfl rfl (by kernel_rfl) (by kernel_rfl) (by kernel_rfl) (by kernel_rfl) (by kernel_rfl) (fun _ _ _ h => h) (Or.inl ⟨by rfl, fun w' hw' => by obtain ⟨q1, q2, q3⟩ := hw'; go_simp⟩) hS ?_
  simp only [List.setIfInBounds_toArray, List.set_cons_zero, List.set_cons_succ]
  refine till_takeAt 13 (i := 7) (v := .pointer (some ⟨p, o + 1, none⟩)) rfl rfl (by kernel_rfl) (by kernel_rfl) (by kernel_rfl) (by kernel_rfl) (by kernel_rfl) (fun _ _ _ h => h) (Or.inl ⟨by rfl, fun w' hw' => by obtain ⟨q1, q2, q3⟩ := hw'; go_simp⟩) hS ?_
  simp only [List.setIfInBounds_toArray, List.set_cons_zero, List.set_cons_succ]
  refine till_takeAt 14 (i := 8) (v := .slice (some ⟨g, 0, none⟩) n cap) rfl rfl (by kernel_rfl) (by kernel_rfl) (by kernel_rfl) (by kernel_rfl) (by kernel_rfl) (fun _ _ _ h => h) (Or.inl ⟨by rfl, fun w' hw' => by obtain ⟨q1, q2, q3⟩ := hw'; go_simp⟩) hS ?_
  simp only [List.setIfInBounds_toArray, List.set_cons_zero, List.set_cons_succ]
  refine till_takeAt 16 (i := 10) (v := .pointer (some ⟨p, o + 1, none⟩)) rfl rfl (by kernel_rfl) (by kernel_rfl) (by kernel_rfl) (by kernel_rfl) (by kernel_rfl) (fun _ _ _ h => h) (Or.inl ⟨by rfl, fun w' hw' => by obtain ⟨q1, q2, q3⟩ := hw'; go_simp⟩) hS ?_
  simp only [List.setIfInBounds_toArray, List.set_cons_zero, List.set_cons_succ]
  refine till_takeAt 17 (i := 11) (v := .pointer (some ⟨p, o + 1, none⟩)) rfl rfl (by kernel_rfl) (by kernel_rfl) (by kernel_rfl) (by kernel_rfl) (by kernel_rfl) (fun _ _ _ h => h) (Or.inl ⟨by rfl, fun w' hw' => by obtain ⟨q1, q2, q3⟩ := hw'; go_simp⟩) hS ?_
  simp only [List.setIfInBounds_toArray, List.set_cons_zero, List.set_cons_succ]
  refine till_takeAt 18 (i := 12) (v := .pointer (some ⟨p, o + 1, none⟩)) rfl rfl (by kernel_rfl) (by kernel_rfl) (by kernel_rfl) (by kernel_rfl) (by kernel_rfl) (fun _ _ _ h => h) (Or.inl ⟨by rfl, fun w' hw' => by obtain ⟨q1, q2, q3⟩ := hw'; go_simp⟩) hS ?_
  simp only [List.setIfInBounds_toArray, List.set_cons_zero, List.set_cons_succ]
  refine till_takeAt 19 (i := 13) (v := .slice (some ⟨g, 0, none⟩) n cap) rfl rfl (by kernel_rfl) (by kernel_rfl) (by kernel_rfl) (by kernel_rfl) (by kernel_rfl) (fun _ _ _ h => h) (Or.inl ⟨by rfl, fun w' hw' => by obtain ⟨q1, q2, q3⟩ := hw'; go_simp⟩) hS ?_
  simp only [List.setIfInBounds_toArray, List.set_cons_zero, List.set_cons_succ]
  refine till_takeAt 20 (i := 14) (v := .int .i64 j) rfl rfl (by kernel_rfl) (by kernel_rfl) (by kernel_rfl) (by kernel_rfl) (by kernel_rfl) (fun _ _ _ h => h) (Or.inl ⟨by rfl, fun w' hw' => by obtain ⟨q1, q2, q3⟩ := hw'; go_simp⟩) hS ?_
  simp only [List.setIfInBounds_toArray, List.set_cons_zero, List.set_cons_succ]
  refine till_takeAt 21 (i := 15) (v := .pointer (some ⟨g, j * 3, none⟩)) rfl rfl (by kernel_rfl) (by kernel_rfl) (by kernel_rfl) (by kernel_rfl) (by kernel_rfl) (fun _ _ _ h => h) (Or.inl ⟨by rfl, fun w' hw' => by obtain ⟨q1, q2, q3⟩ := hw'; go_simp⟩) hS ?_
  simp only [List.setIfInBounds_toArray, List.set_cons_zero, List.set_cons_succ]
  refine till_takeAt 22 (i := 16) (v := .agg (dcells y).toArray) rfl rfl (by kernel_rfl) (by kernel_rfl) (by kernel_rfl) (by kernel_rfl) (by kernel_rfl) (fun _ _ _ h => h) (yields_mid rfl 111 (.tmp 21) rfl g (j * 3) (by rfl) (dcells y) _ (fun w' h => h.2.2) Tryz.underlying111 rfl HZ.out) hS ?_
  simp only [List.setIfInBounds_toArray, List.set_cons_zero, List.set_cons_succ]
  refine till_takeAt 23 (i := 17) (v := .pointer (some ⟨p, o + 1, none⟩)) rfl rfl (by kernel_rfl) (by kernel_rfl) (by kernel_rfl) (by kernel_rfl) (by kernel_rfl) (fun _ _ _ h => h) (Or.inl ⟨by rfl, fun w' hw' => by obtain ⟨q1, q2, q3⟩ := hw'; go_simp⟩) hS ?_
  simp only [List.setIfInBounds_toArray, List.set_cons_zero, List.set_cons_succ]
  refine till_takeAt 24 (i := 18) (v := .pointer (some ⟨p, o + 1, none⟩)) rfl rfl (by kernel_rfl) (by kernel_rfl) (by kernel_rfl) (by kernel_rfl) (by kernel_rfl) (fun _ _ _ h => h) (Or.inl ⟨by rfl, fun w' hw' => by obtain ⟨q1, q2, q3⟩ := hw'; go_simp⟩) hS ?_
  simp only [List.setIfInBounds_toArray, List.set_cons_zero, List.set_cons_succ]
  refine till_takeAt 25 (i := 19) (v := .pointer (some ⟨p, o + 1, none⟩)) rfl rfl (by kernel_rfl) (by kernel_rfl) (by kernel_rfl) (by kernel_rfl) (by kernel_rfl) (fun _ _ _ h => h) (Or.inl ⟨by rfl, fun w' hw' => by obtain ⟨q1, q2, q3⟩ := hw'; go_simp⟩) hS ?_
  simp only [List.setIfInBounds_toArray, List.set_cons_zero, List.set_cons_succ]
  refine till_takeAt 26 (i := 20) (v := .slice (some ⟨g, 0, none⟩) n cap) rfl rfl (by kernel_rfl) (by kernel_rfl) (by kernel_rfl) (by kernel_rfl) (by kernel_rfl) (fun _ _ _ h => h) (Or.inl ⟨by rfl, fun w' hw' => by obtain ⟨q1, q2, q3⟩ := hw'; go_simp⟩) hS ?_
  simp only [List.setIfInBounds_toArray, List.set_cons_zero, List.set_cons_succ]
  refine till_takeAt 27 (i := 21) (v := .int .i64 i) rfl rfl (by kernel_rfl) (by kernel_rfl) (by kernel_rfl) (by kernel_rfl) (by kernel_rfl) (fun _ _ _ h => h) (Or.inl ⟨by rfl, fun w' hw' => by obtain ⟨q1, q2, q3⟩ := hw'; go_simp⟩) hS ?_
  simp only [List.setIfInBounds_toArray, List.set_cons_zero, List.set_cons_succ]
  refine till_takeAt 28 (i := 22) (v := .pointer (some ⟨g, i * 3, none⟩)) rfl rfl (by kernel_rfl) (by kernel_rfl) (by kernel_rfl) (by kernel_rfl) (by kernel_rfl) (fun _ _ _ h => h) (Or.inl ⟨by rfl, fun w' hw' => by obtain ⟨q1, q2, q3⟩ := hw'; go_simp⟩) hS ?_
  simp only [List.setIfInBounds_toArray, List.set_cons_zero, List.set_cons_succ]
  refine till_takeAt 29 (i := 23) (v := .agg (dcells x).toArray) rfl rfl (by kernel_rfl) (by kernel_rfl) (by kernel_rfl) (by kernel_rfl) (by kernel_rfl) (fun _ _ _ h => h) (yields_mid rfl 111 (.tmp 28) rfl g (i * 3) (by rfl) (dcells x) _ (fun w' h => h.2.1) Tryz.underlying111 rfl HZ.out) hS ?_
  simp only [List.setIfInBounds_toArray, List.set_cons_zero, List.set_cons_succ]
  refine till_takeAt 30 (i := 24) (v := .pointer (some ⟨g, i * 3, none⟩)) rfl rfl (by kernel_rfl) (by kernel_rfl) (by kernel_rfl) (by kernel_rfl) (by kernel_rfl) (fun _ _ _ h => h) (Or.inl ⟨by rfl, fun w' hw' => by obtain ⟨q1, q2, q3⟩ := hw'; go_simp⟩) hS ?_
  simp only [List.setIfInBounds_toArray, List.set_cons_zero, List.set_cons_succ]
  clear hS
  refine till_one (i := 25) (by kernel_rfl) rfl rfl (fun K hK => ?_)
  refine wp_store_mid 111 (.tmp 30) (.tmp 22) rfl g (i * 3) (dcells y).toArray (by rfl) (by rfl) ti HZ.out (all_oneCell_toArray (dcells_one y)) ?_
  refine hK _ _ ⟨fun h => absurd h (by omega), ?_⟩
  clear hK K
  refine till_one (i := 26) (by kernel_rfl) rfl rfl (fun K hK => ?_)
  go_simp
  refine hK _ _ ⟨fun h => absurd h (by omega), ?_⟩
  clear hK K
  refine till_one (i := 27) (by kernel_rfl) rfl rfl (fun K hK => ?_)
  refine wp_store_mid 111 (.tmp 31) (.tmp 29) rfl g (j * 3) (dcells x).toArray (by rfl) (by rfl) tj1 HZ.out (all_oneCell_toArray (dcells_one x)) ?_
  refine hK _ _ ⟨fun h => absurd h (by omega), till_done (by kernel_rfl) ?_ _⟩
  clear hK K
  exact bodyPost_end (results_none rfl _ _ _) rfl ⟨rfl, HF.out.1, HF.out.2⟩

theorem dlist_pop (a : Array Due) (h : 0 < a.size) : dlist a.toList = dlist a.pop.toList ++ dcells a[a.size - 1]! := by
  rw [toList_pop a h, dlist_append]
  rfl

set_option maxRecDepth 100000 in
theorem qpop_any {p o : Nat} {S : Spot2 o} {sq : Int} {w : World} {F : List Nat} {a : Array Due} (h : DueAt p S sq w F a) (h0 : 0 < a.size) :
    Calls Tryz.prog 178 #[.pointer (some ⟨p, o + 1, none⟩)] w fun e w' => e = .returned (.iface 111 (dval a[a.size - 1]!)) ∧ DueAt p S sq w' F a.pop ∧ Kept F w w' := by
  obtain ⟨g, cap, hp, hr, hne, rfl, hcap, hs, hm⟩ := h.open h0
  obtain ⟨n, hn⟩ : ∃ n, a.size = n + 1 := ⟨a.size - 1, by omega⟩
  have hz : a.pop.size = n := by simp [hn]
  have rn := due_range hr (i := n) (by omega)
  have hc := hp.spot1
  have hf := hp.free (o + 1)
  have hr2 := hr
  rw [dlist_pop a h0, hn] at hr2
  have hr3 := row_less hr2 (by rw [length_dlist]; simp [hn])
  have hlt := hp.inside
  rw [hn, Nat.add_sub_cancel]
  rw [hn] at hc
  have hp2 := hp.respot1 (.slice (some ⟨g, 0, none⟩) n cap)
  have hr4 : (w.setCell ⟨p, o + 1, none⟩ (.slice (some ⟨g, 0, none⟩) n cap)).ownsRow 0 111 3 (.slice (some ⟨g, 0, none⟩) n cap) n (dlist a.pop.toList) :=
    hr3.kept (grownBy_setCell w ⟨p, o + 1, none⟩ _) (.inr (by simpa [Value.ownBlock] using hne))
  have hfin : DueAt p S sq (w.setCell ⟨p, o + 1, none⟩ (.slice (some ⟨g, 0, none⟩) n cap)) [p, g] a.pop :=
    ⟨_, hp2, by rw [hz]; exact hr4, by simpa [Value.ownBlock] using hne, rfl, by omega⟩
  have hk : Kept [p, g] w (w.setCell ⟨p, o + 1, none⟩ (.slice (some ⟨g, 0, none⟩) n cap)) := (Kept.refl _ _).setCell (p := ⟨p, o + 1, none⟩) (by simp) _
  have HF := Lib.hid (And.intro hfin hk)
  clear hr2 hr3 hr4 hp2 hfin hk hp hr h
  generalize hx : a[n]! = x at *
  clear hx
  have hnc : (n : Int) ≤ cap := by omega
  have hn0 : (0 : Int) ≤ n := by omega
  have hnb : n ≤ 1000000 := by omega
  clear hn hz h0 hcap hs
  unfold maxLen at hm
  have c0 := rn 0 (.int .i64 x.1) rfl
  have c1 := rn 1 (.int .i64 x.2.1) rfl
  have c2 := rn 2 (.int .i64 x.2.2) rfl
  simp only [Nat.add_zero] at c0
  clear rn
  unfold dval
  go_enter Tryz.func178, Tryz.ntmps178
  go_wp2_with fail
  go_ret
  exact ⟨rfl, HF.out.1.kept (G := []) ((Kept.refl _ _).alloc _) (by simp), HF.out.2.alloc _⟩

theorem Tryz.infoDue : (Tryz.prog.info? 111).map (fun i => (i.zero, i.size, i.bytes)) = some (some (.agg #[.int .i64 0, .int .i64 0, .int .i64 0]), 3, 24) := by kernel_rfl
theorem Tryz.assertDue (x y z : Int) (w : World) : (Instr.typeAssert (.iface 111 (.agg #[.int .i64 x, .int .i64 y, .int .i64 z])) 20 111 false).run Tryz.prog w = .ok (.agg #[.int .i64 x, .int .i64 y, .int .i64 z]) w := by kernel_rfl

theorem dlist_push (a : Array Due) (x : Due) : dlist (a.push x).toList = dlist a.toList ++ dcells x := by
  rw [Array.toList_push, dlist_append]
  rfl

set_option maxRecDepth 100000 in
set_option maxHeartbeats 1000000 in
theorem qpush_any {p o : Nat} {S : Spot2 o} {sq : Int} {w : World} {F : List Nat} {a : Array Due} (x : Due) (h : DueAt p S sq w F a) (h1 : a.size < 1000000) :
    Calls Tryz.prog 179 #[.pointer (some ⟨p, o + 1, none⟩), .iface 111 (dval x)] w fun e w' => e = .returned (.tuple #[]) ∧ ∃ F', DueAt p S sq w' F' (a.push x) ∧ Goes F w F' w' := by
  obtain ⟨v, hp, hr, hne, rfl, hs⟩ := h
  obtain ⟨i0, hi, hz0, hz1, hz2⟩ := info_parts Tryz.infoDue
  have hTA := Tryz.assertDue x.1 x.2.1 x.2.2
  obtain ⟨n, hn⟩ : ∃ n, a.size = n := ⟨_, rfl⟩
  rw [hn] at hr hs h1
  obtain ⟨A, cc, rfl⟩ := row_form hr
  have hc := hp.spot1
  have hpl := hp.inside
  have hr1 := (World.ownsRow.alloc hr (.cells (dcells x).toArray 111)).drew
  have hk1 : Kept [] w (w.alloc (.cells (dcells x).toArray 111)).drew := ((Kept.refl _ _).alloc _).drew
  have hp1 := hp.kept hk1 (by simp)
  have hn1 : Has (w.alloc (.cells (dcells x).toArray 111)).drew w.heap.size 111 (dcells x).toArray := Has.made w 111 (dcells x).toArray
  have hz1' : (w.alloc (.cells (dcells x).toArray 111)).drew.heap.size = w.heap.size + 1 := by show (w.alloc _).heap.size = _; simp
  have HP := Lib.hid (And.intro hr1 (And.intro hne (And.intro hk1 (And.intro hn1 (And.intro hz1' (And.intro hn h1))))))
  have HI := Lib.hid (And.intro hi (And.intro hz0 (And.intro hz1 hz2)))
  have hS : w.drew.cell? ⟨p, o + 1, none⟩ = some (.slice A n cc) := hc
  have hS1 : (w.alloc (.cells (dcells x).toArray 111)).drew.cell? ⟨p, o + 1, none⟩ = some (.slice A n cc) := hp1.spot1
  clear hr hs hi hz0 hz1 hz2 hk1 hr1 hc hn1 hz1' hn
  have HQ := Lib.hid hp1
  clear hp hp1 hne h1
  unfold dval
  go_enter Tryz.func179, Tryz.ntmps179
  refine wp_region_tills (fun w' => w'.cell? ⟨p, o + 1, none⟩ = some (.slice A n cc)) 9 (by kernel_rfl) ?_
  refine till_takeAt 4 (i := 0) (v := .pointer (some ⟨p, o + 1, none⟩)) rfl rfl (by kernel_rfl) (by kernel_rfl) (by kernel_rfl) (by kernel_rfl) (by kernel_rfl) (fun _ _ _ h => h) (Or.inl ⟨by rfl, fun w' hw' => by obtain q1 := hw'; go_simp⟩) hS ?_
  simp only [List.setIfInBounds_toArray, List.set_cons_zero, List.set_cons_succ]
  refine till_takeAt 5 (i := 1) (v := .pointer (some ⟨p, o + 1, none⟩)) rfl rfl (by kernel_rfl) (by kernel_rfl) (by kernel_rfl) (by kernel_rfl) (by kernel_rfl) (fun _ _ _ h => h) (Or.inl ⟨by rfl, fun w' hw' => by obtain q1 := hw'; go_simp⟩) hS ?_
  simp only [List.setIfInBounds_toArray, List.set_cons_zero, List.set_cons_succ]
  refine till_takeAt 6 (i := 2) (v := .pointer (some ⟨p, o + 1, none⟩)) rfl rfl (by kernel_rfl) (by kernel_rfl) (by kernel_rfl) (by kernel_rfl) (by kernel_rfl) (fun _ _ _ h => h) (Or.inl ⟨by rfl, fun w' hw' => by obtain q1 := hw'; go_simp⟩) hS ?_
  simp only [List.setIfInBounds_toArray, List.set_cons_zero, List.set_cons_succ]
  refine till_takeAt 7 (i := 3) (v := .pointer (some ⟨p, o + 1, none⟩)) rfl rfl (by kernel_rfl) (by kernel_rfl) (by kernel_rfl) (by kernel_rfl) (by kernel_rfl) (fun _ _ _ h => h) (Or.inl ⟨by rfl, fun w' hw' => by obtain q1 := hw'; go_simp⟩) hS ?_
  simp only [List.setIfInBounds_toArray, List.set_cons_zero, List.set_cons_succ]
  refine till_takeAt 8 (i := 4) (v := .slice A n cc) rfl rfl (by kernel_rfl) (by kernel_rfl) (by kernel_rfl) (by kernel_rfl) (by kernel_rfl) (fun _ _ _ h => h) (Or.inl ⟨by rfl, fun w' hw' => by obtain q1 := hw'; go_simp⟩) hS ?_
  simp only [List.setIfInBounds_toArray, List.set_cons_zero, List.set_cons_succ]
  refine till_takeAt 9 (i := 5) (v := .iface 111 (.agg #[.int .i64 x.1, .int .i64 x.2.1, .int .i64 x.2.2])) rfl rfl (by kernel_rfl) (by kernel_rfl) (by kernel_rfl) (by kernel_rfl) (by kernel_rfl) (fun _ _ _ h => h) (Or.inl ⟨by rfl, fun w' hw' => by obtain q1 := hw'; go_simp⟩) hS ?_
  simp only [List.setIfInBounds_toArray, List.set_cons_zero, List.set_cons_succ]
  refine till_takeAt 10 (i := 6) (v := .agg #[.int .i64 x.1, .int .i64 x.2.1, .int .i64 x.2.2]) rfl rfl (by kernel_rfl) (by kernel_rfl) (by kernel_rfl) (by kernel_rfl) (by kernel_rfl) (fun _ _ _ h => h) (Or.inl ⟨by rfl, fun w' hw' => by obtain q1 := hw'; go_simp⟩) hS ?_
  simp only [List.setIfInBounds_toArray, List.set_cons_zero, List.set_cons_succ]
  refine till_one (i := 7) (by kernel_rfl) rfl rfl (fun K hK => ?_)
  go_simp
  refine hK _ _ ⟨fun _ => hS1, ?_⟩
  clear hK K hTA hS hS1
  obtain ⟨hi, hz0, hz1, hz2⟩ := HI.out
  obtain ⟨hr1, hne, hk1, hn1, hz1', hn, hlt⟩ := HP.out
  have hp1 := HQ.out
  change Till Tryz.prog .any _ _ _ _ _ _ _ (w.alloc (.cells (dcells x).toArray 111)).drew
  generalize (w.alloc (.cells (dcells x).toArray 111)).drew = W at *
  refine till_one (i := 8) (by kernel_rfl) rfl rfl (fun K hK => ?_)
  refine wp_append_lies _ (.tmp 8) (.tmp 11) 99 rfl 0 111 i0 _ 3 24 Tryz.underlying99 hi hz0 hz1 hz2 rfl (by decide) (.slice A n cc) n (dlist a.toList) (by rfl) hr1 ⟨w.heap.size, 0, none⟩ 1 1 (dcells x) (by rfl) rfl
    (World.news_of_block hn1) (dcells_one x) (by omega) (by unfold maxLen; omega) (by omega) (by omega) _ rfl ?_
  intro g cap w2 hown hgrow hat hgl
  have hk2 : Kept (p :: (Value.slice A n cc).ownBlock.toList) W w2 := Kept.of_grown hgrow (fun k hk => by simp [hk])
  have hp2 : Has w2 p S.t (S.K (.int .i64 sq) (.slice A n cc)) := hp1.grown hgrow (fun e => hne p e.symm rfl)
  have hS2 := hp2.spot1
  refine hK _ _ ⟨fun _ => hS2, ?_⟩
  clear hK K
  have hf2 := hp2.free (o + 1)
  have HZ := Lib.hid (And.intro hown (And.intro hk2 (And.intro hat hgl)))
  have HP2 := Lib.hid hp2
  clear hi hz0 hz1 hz2 hr1 hne hk1 hn1 hz1' hn hlt hp1 hown hgrow hat hk2 hp2
  refine till_one (i := 9) (by kernel_rfl) rfl rfl (fun K hK => ?_)
  go_simp
  refine hK _ _ ⟨fun _ => hS2, ?_⟩
  clear hK K
  refine till_one (i := 10) (by kernel_rfl) rfl rfl (fun K hK => ?_)
  go_simp
  refine hK _ _ ⟨fun _ => hS2, ?_⟩
  clear hK K
  refine till_one (i := 11) (by kernel_rfl) rfl rfl (fun K hK => ?_)
  go_simp
  refine hK _ _ ⟨fun h => absurd h (by omega), till_done (by kernel_rfl) ?_ _⟩
  clear hK K
  obtain ⟨hown, hk2, hat, hgl⟩ := HZ.out
  obtain ⟨hr1, hne, hk1, hn1, hz1', hn, hlt⟩ := HP.out
  have hgp : g ≠ p := by
    rcases hat with h | h
    · exact hne g h
    · omega
  refine bodyPost_end (results_none rfl _ _ _) rfl ⟨rfl, [p, g], ⟨_, HP2.out.respot1 (.slice (some ⟨g, 0, none⟩) (n + 1) cap), ?_, by simpa [Value.ownBlock] using hgp, rfl, by simp; omega⟩, ⟨?_, ?_⟩⟩
  · rw [dlist_push, Array.size_push, hn]
    exact hown.kept (grownBy_setCell w2 ⟨p, o + 1, none⟩ _) (.inr (by simpa [Value.ownBlock] using hgp))
  · exact ((hk1.mono (by simp)).trans hk2).setCell (.inl (by simp)) _
  · intro k hk
    simp at hk
    rcases hk with rfl | rfl
    · exact .inl (by simp)
    · rcases hat with h | h
      · exact .inl (by simp [h])
      · exact .inr (by omega)

theorem dueHO (p : Nat) {o : Nat} (S : Spot2 o) (sq : Int) : HO 174 (.pointer (some ⟨p, o + 1, none⟩)) 176 177 180 179 178 ltDue (fun x => .iface 111 (dval x)) (DueAt p S sq) where
  mLen := fun w => by kernel_rfl
  mLess := fun w => by kernel_rfl
  mSwap := fun w => by kernel_rfl
  mPush := fun w => by kernel_rfl
  mPop := fun w => by kernel_rfl
  eLen := fun _ _ => by kernel_rfl
  eLess := fun _ _ => by kernel_rfl
  eSwap := fun _ _ => by kernel_rfl
  ePush := fun _ _ => by kernel_rfl
  ePop := fun _ _ => by kernel_rfl
  swo := swo_due
  few := fun ⟨_, _, _, _, _, h⟩ => h
  len := fun h => dlen_any h
  less := fun i j h hi hj => qless_any i j h hi hj
  swap := fun i j h hi hj => qswap_any i j h hi hj
  push := fun x h hs => qpush_any x h hs
  pop := fun h h0 => qpop_any h h0
end Go.Proofs.YtlalhinodmmgfaaGreat
