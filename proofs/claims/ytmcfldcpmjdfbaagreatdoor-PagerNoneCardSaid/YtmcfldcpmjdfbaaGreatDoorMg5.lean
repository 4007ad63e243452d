/-
  A line in memory: what is due, three cells each; how two are compared.
-/
import Derived.Test.YtmcfldcpmjdfbaaGreatDoorMg3
import Derived.Test.YtmcfldcpmjdfbaaGreatDoorMg4
import Derived.Deep.RegionHeld3
namespace Go.Proofs.YtmcfldcpmjdfbaaGreatDoor
open Go.RowKit Go.Sort

/-- At, Seq, What. -/
abbrev Due := Int × Int × Int
def dcells (d : Due) : List Value := [.int .i64 d.1, .int .i64 d.2.1, .int .i64 d.2.2]
def dval (d : Due) : Value := .agg #[.int .i64 d.1, .int .i64 d.2.1, .int .i64 d.2.2]
def dlist (l : List Due) : List Value := l.flatMap dcells
def ltDue (a b : Due) : Bool := decide (a.1 < b.1 ∨ a.1 = b.1 ∧ a.2.1 < b.2.1)
def cmpDue (a b : Due) : Int := if Lib.compareInt a.1 b.1 ≠ 0 then Lib.compareInt a.1 b.1 else Lib.compareInt a.2.1 b.2.1

theorem cmpDue_lt (a b : Due) : decide (cmpDue a b < 0) = ltDue a b := by
  unfold cmpDue ltDue Lib.compareInt
  rcases Int.lt_trichotomy a.1 b.1 with h | h | h
  · simp [h]
  · rcases Int.lt_trichotomy a.2.1 b.2.1 with k | k | k
    · simp [h, k]
    · simp [h, k]
    · simp [h, show ¬ a.2.1 < b.2.1 by omega, k]
  · simp [show ¬ a.1 < b.1 by omega, h, show ¬ a.1 = b.1 by omega]

theorem swo_due : SWO ltDue where
  irrefl a := by simp [ltDue]
  trans a b c := by simp only [ltDue, decide_eq_true_eq]; omega
  ntrans a b c := by simp only [ltDue, decide_eq_false_iff_not]; omega

theorem length_dlist (l : List Due) : (dlist l).length = l.length * 3 := by
  induction l with
  | nil => rfl
  | cons d r ih => unfold dlist at *; rw [List.flatMap_cons, List.length_append, ih]; simp [dcells]; omega
theorem dlist_cons (d : Due) (r : List Due) : dlist (d :: r) = dcells d ++ dlist r := rfl
theorem dlist_append (l m : List Due) : dlist (l ++ m) = dlist l ++ dlist m := by unfold dlist; rw [List.flatMap_append]
theorem dlist_at : ∀ (l : List Due) (i j : Nat) (d : Due), l[i]? = some d → j < 3 → (dlist l)[i * 3 + j]? = (dcells d)[j]?
  | [], _, _, _, h, _ => by simp at h
  | x :: r, 0, j, d, h, hj => by
    obtain rfl : x = d := by simpa using h
    rw [dlist_cons, List.getElem?_append_left (by simp [dcells]; omega)]
    simp
  | x :: r, i + 1, j, d, h, hj => by
    rw [dlist_cons, List.getElem?_append_right (by simp [dcells]; omega)]
    rw [show (i + 1) * 3 + j - (dcells x).length = i * 3 + j by simp [dcells]; omega]
    exact dlist_at r i j d (by simpa using h) hj
theorem dlist_set : ∀ (l : List Due) (i : Nat) (d : Due), dlist (l.set i d) = (((dlist l).set (i * 3) (.int .i64 d.1)).set (i * 3 + 1) (.int .i64 d.2.1)).set (i * 3 + 2) (.int .i64 d.2.2)
  | [], _, _ => rfl
  | x :: r, 0, d => by
    rw [List.set_cons_zero, dlist_cons, dlist_cons]
    simp [dcells]
  | x :: r, i + 1, d => by
    rw [List.set_cons_succ, dlist_cons, dlist_cons, dlist_set r i d]
    have hl : (dcells x).length = 3 := by simp [dcells]
    rw [show (i + 1) * 3 = i * 3 + 3 by omega]
    rw [List.set_append_right _ _ (by omega), List.set_append_right _ _ (by omega), List.set_append_right _ _ (by omega), hl]
    congr 4 <;> omega

/-- Where a line stands: its count and its slice, in two cells of a block of type t, among other cells. -/
structure Spot2 (o : Nat) where
  t : TypeId
  K : Value → Value → Array Value
  get0 : ∀ s v, (K s v)[o]? = some s
  get1 : ∀ s v, (K s v)[o + 1]? = some v
  put0 : ∀ s v u, (K s v).setIfInBounds o u = K u v
  put1 : ∀ s v u, (K s v).setIfInBounds (o + 1) u = K s u

section
variable {w w' : World} {p o : Nat} {S : Spot2 o} {s v : Value}
theorem Has.spot0 (h : Has w p S.t (S.K s v)) : w.cell? ⟨p, o, none⟩ = some s := (h.cell o).trans (S.get0 s v)
theorem Has.spot1 (h : Has w p S.t (S.K s v)) : w.cell? ⟨p, o + 1, none⟩ = some v := (h.cell (o + 1)).trans (S.get1 s v)
theorem Has.respot0 (h : Has w p S.t (S.K s v)) (u : Value) : Has (w.setCell ⟨p, o, none⟩ u) p S.t (S.K u v) := by
  have := h.put o u
  rwa [S.put0] at this
theorem Has.respot1 (h : Has w p S.t (S.K s v)) (u : Value) : Has (w.setCell ⟨p, o + 1, none⟩ u) p S.t (S.K s u) := by
  have := h.put (o + 1) u
  rwa [S.put1] at this
end

/-- A line at cell o of p: its count and a row of its own, three cells each. -/
def DueAt (p : Nat) {o : Nat} (S : Spot2 o) (sq : Int) (w : World) (F : List Nat) (a : Array Due) : Prop :=
  ∃ v, Has w p S.t (S.K (.int .i64 sq) v) ∧ w.ownsRow 0 115 3 v a.size (dlist a.toList) ∧ (∀ g, v.ownBlock = some g → g ≠ p) ∧ F = p :: v.ownBlock.toList ∧ a.size ≤ 1000000

theorem DueAt.open {p o : Nat} {S : Spot2 o} {sq : Int} {w : World} {F : List Nat} {a : Array Due} (h : DueAt p S sq w F a) (h0 : 0 < a.size) :
    ∃ g cap, Has w p S.t (S.K (.int .i64 sq) (.slice (some ⟨g, 0, none⟩) a.size cap)) ∧ w.ownsRow 0 115 3 (.slice (some ⟨g, 0, none⟩) a.size cap) a.size (dlist a.toList) ∧ g ≠ p ∧ F = [p, g] ∧ a.size ≤ cap ∧ a.size ≤ 1000000 ∧ cap ≤ maxLen := by
  obtain ⟨v, hp, hr, hne, rfl, hs⟩ := h
  rcases hr.2 with ⟨_, h1⟩ | ⟨g, cap, cur, rfl, _, _, hc, hm, _⟩
  · omega
  · exact ⟨g, cap, hp, hr, hne g rfl, rfl, hc, hs, hm⟩

theorem row_kept3 {w w' : World} {F : List Nat} {base : Nat} {e : TypeId} {size : Nat} {v : Value} {n : Nat} {xs : List Value} (h : w.ownsRow base e size v n xs) (k : Kept F w w') (hn : ∀ g, v.ownBlock = some g → g ∉ F) : w'.ownsRow base e size v n xs := row_kept h k hn

theorem DueAt.lt {p o : Nat} {S : Spot2 o} {sq : Int} {w : World} {F : List Nat} {a : Array Due} (h : DueAt p S sq w F a) : ∀ k ∈ F, k < w.heap.size := by
  obtain ⟨v, hp, hr, hne, rfl, hs⟩ := h
  intro k hk
  rcases List.mem_cons.1 hk with rfl | hk
  · exact hp.inside
  · exact (hr.lt k (by simpa using hk)).2

theorem DueAt.kept {p o : Nat} {S : Spot2 o} {sq : Int} {w w' : World} {F G : List Nat} {a : Array Due} (h : DueAt p S sq w F a) (hk : Kept G w w') (hd : ∀ k ∈ F, k ∉ G) : DueAt p S sq w' F a := by
  obtain ⟨v, hp, hr, hne, rfl, hs⟩ := h
  exact ⟨v, hp.kept hk (hd p (by simp)), row_kept hr hk (fun g hg => hd g (by simp [hg])), hne, rfl, hs⟩

/-- The cells of one. -/
theorem due_range {w : World} {base g n cap : Nat} {a : Array Due} (hr : w.ownsRow base 115 3 (.slice (some ⟨g, 0, none⟩) n cap) n (dlist a.toList)) {i : Nat} (hi : i < a.size) : w.rangeAt g (i * 3) (dcells a[i]!) := by
  intro j v hv
  have hj : j < 3 := (List.getElem?_eq_some_iff.1 hv).1
  have hn : a.size = n := by have := hr.1; rw [length_dlist, Array.length_toList] at this; omega
  rw [hr.cellAt (i * 3 + j) (by omega), dlist_at _ i j _ (get_of hi) hj, hv]
theorem due_there {w : World} {base g n cap : Nat} {a : Array Due} (hr : w.ownsRow base 115 3 (.slice (some ⟨g, 0, none⟩) n cap) n (dlist a.toList)) {i : Nat} (hi : i < a.size) : w.there g (i * 3) 3 := by
  intro j hj
  have h1 := due_range hr hi
  exact ⟨h1.isSome j (by simpa [dcells] using hj), hr.frozenAt _⟩

theorem due_stored {w : World} {base g n cap : Nat} {l : List Due} (hr : w.ownsRow base 115 3 (.slice (some ⟨g, 0, none⟩) n cap) n (dlist l)) (i : Nat) (d : Due) :
    (w.setCells g (i * 3) (dcells d)).ownsRow base 115 3 (.slice (some ⟨g, 0, none⟩) n cap) n (dlist (l.set i d)) ∧ w.grownBy (w.setCells g (i * 3) (dcells d)) (some g) := by
  obtain ⟨h1, g1⟩ := hr.stored (i * 3) (.int .i64 d.1)
  obtain ⟨h2, g2⟩ := h1.stored (i * 3 + 1) (.int .i64 d.2.1)
  obtain ⟨h3, g3⟩ := h2.stored (i * 3 + 2) (.int .i64 d.2.2)
  rw [← dlist_set] at h3
  exact ⟨h3, grownBy_trans (grownBy_trans g1 g2) g3⟩

theorem dlen_any {p o : Nat} {S : Spot2 o} {sq : Int} {w : World} {F : List Nat} {a : Array Due} (h : DueAt p S sq w F a) : Calls Tryz.prog 189 #[.pointer (some ⟨p, o + 1, none⟩)] w fun e w' => e = .returned (.int .i64 (a.size : Nat)) ∧ w' = w := by
  obtain ⟨v, hp, hr, hne, rfl, hs⟩ := h
  have hc := hp.spot1
  obtain ⟨A, c, rfl⟩ := row_form hr
  clear hp hr hne
  generalize a.size = n at *
  go_enter Tryz.func189, Tryz.ntmps189
  go_wp2
  go_ret
  exact ⟨rfl, rfl⟩

/-- cmp.Or of two. -/
theorem or2_any (b : Nat) (x y : Int) (w : World) (h : Has w b 3 #[.int .i64 x, .int .i64 y]) :
    Calls Tryz.prog 108 #[.slice (some ⟨b, 0, none⟩) 2 2] w fun e w' => e = .returned (.int .i64 (if x ≠ 0 then x else y)) ∧ w' = w := by
  have c0 := h.cell 0
  have c1 := h.cell 1
  simp at c0 c1
  clear h
  obtain ⟨r, hr⟩ : ∃ r, (if x ≠ 0 then x else y) = r := ⟨_, rfl⟩
  rw [hr]
  have HR := Lib.hid hr
  clear hr
  by_cases hx : x = 0
  · have hx1 : (x != 0) = false := by simpa using hx
    by_cases hy : y = 0
    · have hy1 : (y != 0) = false := by simpa using hy
      have HX := Lib.hid (show r = 0 by rw [← HR.out]; simp [hx, hy])
      clear hx hy
      go_enter Tryz.func108, Tryz.ntmps108
      go_wp2_with fail
      go_loopg [8] 2 (fun g i wr => ∃ k : Nat, i = .int .i64 k ∧ k + g = 2 ∧ wr = w)
      case atStart => exact ⟨0, rfl, rfl, rfl⟩
      case round =>
        obtain ⟨k, rfl, hk, rfl⟩ := hrel
        rcases (show k = 0 ∨ k = 1 ∨ k = 2 by omega) with rfl | rfl | rfl
        · go_wp2
          go_roundg 1
          case measure => omega
          case rel => exact ⟨1, rfl, rfl, rfl⟩
        · go_wp2
          go_roundg 0
          case measure => omega
          case rel => exact ⟨2, rfl, rfl, rfl⟩
        · go_wp2
          go_ret
          exact ⟨by rw [HX.out]; rfl, rfl⟩
    · have hy1 : (y != 0) = true := by simpa using hy
      have HX := Lib.hid (show r = y by rw [← HR.out]; simp [hx])
      clear hx hy
      go_enter Tryz.func108, Tryz.ntmps108
      go_wp2_with fail
      go_loopg [8] 2 (fun g i wr => ∃ k : Nat, i = .int .i64 k ∧ k + g = 2 ∧ wr = w ∧ k < 2)
      case atStart => exact ⟨0, rfl, rfl, rfl, by omega⟩
      case round =>
        obtain ⟨k, rfl, hk, rfl, _⟩ := hrel
        rcases (show k = 0 ∨ k = 1 by omega) with rfl | rfl
        · go_wp2
          go_roundg 1
          case measure => omega
          case rel => exact ⟨1, rfl, rfl, rfl, by omega⟩
        · go_wp2
          go_ret
          exact ⟨by rw [HX.out]; rfl, rfl⟩
  · have hx1 : (x != 0) = true := by simpa using hx
    have HX := Lib.hid (show r = x by rw [← HR.out]; simp [hx])
    clear hx
    go_enter Tryz.func108, Tryz.ntmps108
    go_wp2_with fail
    go_loopg [8] 2 (fun g i wr => i = .int .i64 0 ∧ wr = w)
    case atStart => exact ⟨rfl, rfl⟩
    case round =>
      obtain ⟨rfl, rfl⟩ := hrel
      go_wp2
      go_ret
      exact ⟨by rw [HX.out]; rfl, rfl⟩

set_option maxRecDepth 100000 in
set_option maxHeartbeats 1000000 in
theorem order_more (a b : Due) (w : World) : Calls Tryz.prog 85 #[dval a, dval b] w fun e w' => e = .returned (.int .i64 (cmpDue a b)) ∧ Below w.heap.size w w' ∧ w.drawn ≤ w'.drawn := by
  have hor := fun (w' : World) (g : Nat) => or2_any g (Lib.compareInt a.1 b.1) (Lib.compareInt a.2.1 b.2.1) w'
  have HO := Lib.hid hor
  have HC := Lib.hid (show cmpDue a b = if Lib.compareInt a.1 b.1 ≠ 0 then Lib.compareInt a.1 b.1 else Lib.compareInt a.2.1 b.2.1 from rfl)
  have hc1 := fun w' => Tryz.cmp_Compare_int a.1 b.1 w'
  have hc2 := fun w' => Tryz.cmp_Compare_int a.2.1 b.2.1 w'
  have HC1 := Lib.hid hc1
  have HC2 := Lib.hid hc2
  unfold dval
  obtain ⟨a1, a2, a3⟩ := a
  obtain ⟨b1, b2, b3⟩ := b
  clear hor hc1 hc2
  simp only at HO HC HC1 HC2 ⊢
  generalize Lib.compareInt a1 b1 = r1 at *
  generalize Lib.compareInt a2 b2 = r2 at *
  generalize cmpDue (a1, a2, a3) (b1, b2, b3) = r at *
  have hA : Has ((w.alloc (.cells #[.int .i64 a1, .int .i64 a2, .int .i64 a3] 115)).alloc (.cells #[.int .i64 b1, .int .i64 b2, .int .i64 b3] 115)) w.heap.size 115 #[.int .i64 a1, .int .i64 a2, .int .i64 a3] := (Has.made w _ _).alloc _
  have hB : Has ((w.alloc (.cells #[.int .i64 a1, .int .i64 a2, .int .i64 a3] 115)).alloc (.cells #[.int .i64 b1, .int .i64 b2, .int .i64 b3] 115)) (w.heap.size + 1) 115 #[.int .i64 b1, .int .i64 b2, .int .i64 b3] := by
    have := Has.made (w.alloc (.cells #[.int .i64 a1, .int .i64 a2, .int .i64 a3] 115)) 115 #[.int .i64 b1, .int .i64 b2, .int .i64 b3]
    simpa using this
  have hbl : Below w.heap.size w ((w.alloc (.cells #[.int .i64 a1, .int .i64 a2, .int .i64 a3] 115)).alloc (.cells #[.int .i64 b1, .int .i64 b2, .int .i64 b3] 115)) :=
    ((Below.refl _ _).alloc (Nat.le_refl _) _).alloc (by simp) _
  have hdr : w.drawn ≤ ((w.alloc (.cells #[.int .i64 a1, .int .i64 a2, .int .i64 a3] 115)).alloc (.cells #[.int .i64 b1, .int .i64 b2, .int .i64 b3] 115)).drawn := Nat.le_refl _
  have HAB := Lib.hid (And.intro hA (And.intro hB (And.intro hbl hdr)))
  clear hA hB hbl hdr
  go_enter Tryz.func85, Tryz.ntmps85
  go_wp2_with fail
  obtain ⟨hA, hB, hbl, hdr⟩ := HAB.out
  clear HAB
  generalize (w.alloc (.cells #[.int .i64 a1, .int .i64 a2, .int .i64 a3] 115)).alloc (.cells #[.int .i64 b1, .int .i64 b2, .int .i64 b3] 115) = W at *
  have hS : W.drew.cell? ⟨w.heap.size, 0, none⟩ = some (.int .i64 a1) ∧ W.drew.cell? ⟨w.heap.size, 1, none⟩ = some (.int .i64 a2) ∧ W.drew.cell? ⟨w.heap.size + 1, 0, none⟩ = some (.int .i64 b1) ∧ W.drew.cell? ⟨w.heap.size + 1, 1, none⟩ = some (.int .i64 b2) :=
    ⟨hA.cell 0, hA.cell 1, hB.cell 0, hB.cell 1⟩
  have hle := hbl.size
  have HB := Lib.hid (And.intro hbl hdr)
  clear hA hB hbl hdr
  refine wp_region_tills (fun w' => w'.cell? ⟨w.heap.size, 0, none⟩ = some (.int .i64 a1) ∧ w'.cell? ⟨w.heap.size, 1, none⟩ = some (.int .i64 a2) ∧ w'.cell? ⟨w.heap.size + 1, 0, none⟩ = some (.int .i64 b1) ∧ w'.cell? ⟨w.heap.size + 1, 1, none⟩ = some (.int .i64 b2)) 10 (by kernel_rfl) ?_
  refine till_takeAt 5 (i := 0) (v := .pointer (some ⟨w.heap.size, 0, none⟩)) rfl rfl (by kernel_rfl) (by kernel_rfl) (by kernel_rfl) (by kernel_rfl) (by kernel_rfl) (fun _ _ _ h => h) (Or.inl ⟨by rfl, fun w' hw' => by obtain ⟨q1, q2, q3, q4⟩ := hw'; go_simp⟩) hS ?_
  simp only [List.setIfInBounds_toArray, List.set_cons_zero, List.set_cons_succ]
  refine till_takeAt 6 (i := 1) (v := .int .i64 a1) rfl rfl (by kernel_rfl) (by kernel_rfl) (by kernel_rfl) (by kernel_rfl) (by kernel_rfl) (fun _ _ _ h => h) (Or.inl ⟨by rfl, fun w' hw' => by obtain ⟨q1, q2, q3, q4⟩ := hw'; go_simp⟩) hS ?_
  simp only [List.setIfInBounds_toArray, List.set_cons_zero, List.set_cons_succ]
  refine till_takeAt 7 (i := 2) (v := .pointer (some ⟨w.heap.size + 1, 0, none⟩)) rfl rfl (by kernel_rfl) (by kernel_rfl) (by kernel_rfl) (by kernel_rfl) (by kernel_rfl) (fun _ _ _ h => h) (Or.inl ⟨by rfl, fun w' hw' => by obtain ⟨q1, q2, q3, q4⟩ := hw'; go_simp⟩) hS ?_
  simp only [List.setIfInBounds_toArray, List.set_cons_zero, List.set_cons_succ]
  refine till_takeAt 8 (i := 3) (v := .int .i64 b1) rfl rfl (by kernel_rfl) (by kernel_rfl) (by kernel_rfl) (by kernel_rfl) (by kernel_rfl) (fun _ _ _ h => h) (Or.inl ⟨by rfl, fun w' hw' => by obtain ⟨q1, q2, q3, q4⟩ := hw'; go_simp⟩) hS ?_
  simp only [List.setIfInBounds_toArray, List.set_cons_zero, List.set_cons_succ]
  refine till_takeAt 10 (i := 5) (v := .pointer (some ⟨w.heap.size, 1, none⟩)) rfl rfl (by kernel_rfl) (by kernel_rfl) (by kernel_rfl) (by kernel_rfl) (by kernel_rfl) (fun _ _ _ h => h) (Or.inl ⟨by rfl, fun w' hw' => by obtain ⟨q1, q2, q3, q4⟩ := hw'; go_simp⟩) hS ?_
  simp only [List.setIfInBounds_toArray, List.set_cons_zero, List.set_cons_succ]
  refine till_takeAt 11 (i := 6) (v := .int .i64 a2) rfl rfl (by kernel_rfl) (by kernel_rfl) (by kernel_rfl) (by kernel_rfl) (by kernel_rfl) (fun _ _ _ h => h) (Or.inl ⟨by rfl, fun w' hw' => by obtain ⟨q1, q2, q3, q4⟩ := hw'; go_simp⟩) hS ?_
  simp only [List.setIfInBounds_toArray, List.set_cons_zero, List.set_cons_succ]
  refine till_takeAt 12 (i := 7) (v := .pointer (some ⟨w.heap.size + 1, 1, none⟩)) rfl rfl (by kernel_rfl) (by kernel_rfl) (by kernel_rfl) (by kernel_rfl) (by kernel_rfl) (fun _ _ _ h => h) (Or.inl ⟨by rfl, fun w' hw' => by obtain ⟨q1, q2, q3, q4⟩ := hw'; go_simp⟩) hS ?_
  simp only [List.setIfInBounds_toArray, List.set_cons_zero, List.set_cons_succ]
  refine till_takeAt 13 (i := 8) (v := .int .i64 b2) rfl rfl (by kernel_rfl) (by kernel_rfl) (by kernel_rfl) (by kernel_rfl) (by kernel_rfl) (fun _ _ _ h => h) (Or.inl ⟨by rfl, fun w' hw' => by obtain ⟨q1, q2, q3, q4⟩ := hw'; go_simp⟩) hS ?_
  simp only [List.setIfInBounds_toArray, List.set_cons_zero, List.set_cons_succ]
  refine till_one (i := 4) (by kernel_rfl) rfl rfl (fun K hK => ?_)
  go_simp
  refine (HC1.out _).mono ?_
  rintro e w' ⟨rfl, rfl⟩
  refine hK _ _ ⟨fun _ => hS, ?_⟩
  clear hK K
  refine till_one (i := 9) (by kernel_rfl) rfl rfl (fun K hK => ?_)
  go_simp
  refine (HC2.out _).mono ?_
  rintro e w' ⟨rfl, rfl⟩
  refine hK _ _ ⟨fun _ => hS, ?_⟩
  clear hK K hS
  refine till_one (i := 10) (by kernel_rfl) rfl rfl (fun K hK => ?_)
  go_simp
  refine hK _ _ ⟨fun h => absurd h (by omega), ?_⟩
  clear hK K
  have hH : Has (W.alloc (.cells #[.int .i64 r1, .int .i64 r2] 3)).drew W.heap.size 3 #[.int .i64 r1, .int .i64 r2] := (Has.made W _ _)
  have ho := HO.out _ _ hH
  rw [← HC.out] at ho
  refine till_one (i := 11) (by kernel_rfl) rfl rfl (fun K hK => ?_)
  go_simp
  refine ho.mono ?_
  rintro e w' ⟨rfl, rfl⟩
  refine hK _ _ ⟨fun h => absurd h (by omega), ?_⟩
  clear hK K ho hH
  refine till_one (i := 12) (by kernel_rfl) rfl rfl (fun K hK => ?_)
  go_simp
  refine hK _ _ ⟨fun h => absurd h (by omega), till_done (by kernel_rfl) ?_ _⟩
  clear hK K
  go_wp2
  go_ret
  exact ⟨rfl, (HB.out.1.alloc hle _).drew, Nat.le_succ_of_le HB.out.2⟩

theorem order_any (a b : Due) (w : World) : Calls Tryz.prog 85 #[dval a, dval b] w fun e w' => e = .returned (.int .i64 (cmpDue a b)) ∧ Below w.heap.size w w' :=
  (order_more a b w).mono fun _ _ h => ⟨h.1, h.2.1⟩
end Go.Proofs.YtmcfldcpmjdfbaaGreatDoor
