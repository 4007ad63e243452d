/-
  Heaps, of no program: rows in which no one is less than its parent; what sifting up and sifting down keep; the first one is the least; sorted lists.
-/
import Derived.Sort.LotA
namespace Go.Proofs.YtlignamakiiokaaGreatDoor
open Go.Sort

section
variable {α : Type} [Inhabited α] {lt : α → α → Bool}

/-- No place from lo's children on holds less than its parent. -/
def HeapFrom (lt : α → α → Bool) (a : Array α) (n lo : Nat) : Prop := ∀ k, 0 < k → k < n → lo ≤ (k - 1) / 2 → lt a[k]! a[(k - 1) / 2]! = false

/-- Sifting down stands at i, begun at i0. -/
structure DownInv (lt : α → α → Bool) (a : Array α) (n lo i0 i : Nat) : Prop where
  le : i0 ≤ i
  up : ∀ k, 0 < k → k < n → lo ≤ (k - 1) / 2 → (k - 1) / 2 ≠ i → (k = i0 → i ≠ i0) → lt a[k]! a[(k - 1) / 2]! = false
  gr : 0 < i → lo ≤ (i - 1) / 2 → ∀ k, 0 < k → k < n → (k - 1) / 2 = i → lt a[k]! a[(i - 1) / 2]! = false

/-- Sifting up stands at j. -/
structure UpInv (lt : α → α → Bool) (a : Array α) (n j : Nat) : Prop where
  ok : ∀ k, 0 < k → k < n → k ≠ j → lt a[k]! a[(k - 1) / 2]! = false
  gr : 0 < j → ∀ k, 0 < k → k < n → (k - 1) / 2 = j → lt a[k]! a[(j - 1) / 2]! = false

omit [Inhabited α] in
theorem lt_asym (hO : SWO lt) {x y : α} (h : lt x y = true) : lt y x = false := by
  cases h2 : lt y x with
  | false => rfl
  | true => have := hO.trans x y x h h2; rw [hO.irrefl] at this; cases this

omit [Inhabited α] in
theorem not_lt_of (hO : SWO lt) {x y z : α} (h : lt x y = false) (k : lt z y = true) : lt x z = false := by
  cases h2 : lt x z with
  | false => rfl
  | true => have := hO.trans x z y h2 k; rw [h] at this; cases this

omit [Inhabited α] in
/-- What is not less than y, which is not less than z, is not less than z. -/
theorem not_lt_of_low (hO : SWO lt) {x y z : α} (h : lt x y = false) (k : lt y z = false) : lt x z = false := hO.ntrans _ _ _ h k

theorem DownInv.step (hO : SWO lt) {a : Array α} {n lo i0 i j : Nat} (h : DownInv lt a n lo i0 i) (_hlo : lo ≤ i0) (hn : n ≤ a.size) (hj0 : 0 < j) (hj : j < n) (hp : (j - 1) / 2 = i) (hl : lt a[j]! a[i]! = true)
    (hs : ∀ k, 0 < k → k < n → (k - 1) / 2 = i → lt a[k]! a[j]! = false) : DownInv lt (swp a i j) n lo i0 j := by
  have hle := h.le
  have hij : i < j := by omega
  have g := fun k => swp_get a (i := i) (j := j) (by omega) (by omega) k
  have gi : (swp a i j)[i]! = a[j]! := by rw [g, if_neg (by omega), if_pos rfl]
  have gj : (swp a i j)[j]! = a[i]! := by rw [g, if_pos rfl]
  have go : ∀ k, k ≠ i → k ≠ j → (swp a i j)[k]! = a[k]! := fun k h1 h2 => by rw [g, if_neg h2, if_neg h1]
  refine ⟨by omega, fun k k0 kn kl kp _ => ?_, fun _ _ k k0 kn kp => ?_⟩
  · by_cases e1 : k = j
    · subst e1; rw [gj, hp, gi]; exact lt_asym hO hl
    · by_cases e2 : k = i
      · subst e2
        rw [gi, go _ (by omega) (by omega)]
        exact h.gr k0 kl j hj0 hj hp
      · rw [go k e2 e1]
        by_cases e3 : (k - 1) / 2 = i
        · rw [e3, gi]; exact hs k k0 kn e3
        · rw [go _ e3 kp]
          exact h.up k k0 kn kl e3 (fun e => by omega)
  · rw [go k (by omega) (by omega), hp, gi]
    have := h.up k k0 kn (by omega) (by omega) (by omega)
    rwa [kp] at this

theorem DownInv.done {a : Array α} {n lo i0 i : Nat} (h : DownInv lt a n lo i0 i) (hs : ∀ k, 0 < k → k < n → (k - 1) / 2 = i → lt a[k]! a[i]! = false) (hm : i ≠ i0 ∨ i0 = 0 ∨ (i0 - 1) / 2 < lo) : HeapFrom lt a n lo := fun k k0 kn kl => by
  by_cases e : (k - 1) / 2 = i
  · rw [e]; exact hs k k0 kn e
  · exact h.up k k0 kn kl e (fun e2 => by subst e2; rcases hm with hm | hm | hm <;> omega)


theorem UpInv.step (hO : SWO lt) {a : Array α} {n j : Nat} (h : UpInv lt a n j) (hn : n ≤ a.size) (hj0 : 0 < j) (hj : j < n) (hl : lt a[j]! a[(j - 1) / 2]! = true) : UpInv lt (swp a ((j - 1) / 2) j) n ((j - 1) / 2) := by
  generalize hi : (j - 1) / 2 = i at *
  have hij : i < j := by omega
  have g := fun k => swp_get a (i := i) (j := j) (by omega) (by omega) k
  have gi : (swp a i j)[i]! = a[j]! := by rw [g, if_neg (by omega), if_pos rfl]
  have gj : (swp a i j)[j]! = a[i]! := by rw [g, if_pos rfl]
  have go : ∀ k, k ≠ i → k ≠ j → (swp a i j)[k]! = a[k]! := fun k h1 h2 => by rw [g, if_neg h2, if_neg h1]
  refine ⟨fun k k0 kn ke => ?_, fun h0 k k0 kn kp => ?_⟩
  · by_cases e1 : k = j
    · subst e1; rw [gj, hi, gi]; exact lt_asym hO hl
    · rw [go k ke e1]
      by_cases e3 : (k - 1) / 2 = i
      · rw [e3, gi]
        have := h.ok k k0 kn e1
        rw [e3] at this
        exact not_lt_of hO this hl
      · by_cases e4 : (k - 1) / 2 = j
        · rw [e4, gj]; have := h.gr hj0 k k0 kn e4; rwa [hi] at this
        · rw [go _ e3 e4]; exact h.ok k k0 kn e1
  · have hik := h.ok i h0 (by omega) (by omega)
    rw [go _ (show (i - 1) / 2 ≠ i by omega) (by omega)]
    by_cases e1 : k = j
    · subst e1; rw [gj]; exact hik
    · rw [go k (by omega) e1]
      have := h.ok k k0 kn e1
      rw [kp] at this
      exact hO.ntrans _ _ _ this hik

theorem UpInv.done {a : Array α} {n j : Nat} (h : UpInv lt a n j) (hs : 0 < j → lt a[j]! a[(j - 1) / 2]! = false) : HeapFrom lt a n 0 := fun k k0 kn _ => by
  by_cases e : k = j
  · subst e; exact hs k0
  · exact h.ok k k0 kn e

theorem HeapFrom.least (hO : SWO lt) {a : Array α} {n : Nat} (h : HeapFrom lt a n 0) : ∀ k, k < n → lt a[k]! a[0]! = false := by
  intro k
  induction k using Nat.strongRecOn with
  | _ k ih =>
    intro kn
    by_cases e : k = 0
    · subst e; exact hO.irrefl _
    · exact hO.ntrans _ _ _ (h k (by omega) kn (Nat.zero_le _)) (ih ((k - 1) / 2) (by omega) (by omega))


theorem HeapFrom.below {a : Array α} {n i : Nat} (h : HeapFrom lt a n (i + 1)) : DownInv lt a n i i i :=
  ⟨Nat.le_refl _, fun k k0 kn kl kp _ => h k k0 kn (by omega), fun h0 h1 => by omega⟩

theorem get_pop (a : Array α) (k : Nat) (hk : k < a.size - 1) : a.pop[k]! = a[k]! := by
  rw [getElem!_def, getElem!_def, Array.getElem?_pop, if_pos hk]

theorem HeapFrom.pop {a : Array α} (h : HeapFrom lt a (a.size - 1) 0) : HeapFrom lt a.pop a.pop.size 0 := fun k k0 kn kl => by
  rw [Array.size_pop] at kn
  rw [get_pop a k kn, get_pop a _ (by omega)]
  exact h k k0 kn kl

/-- What is put to the foot of a heap is sifted up. -/
theorem HeapFrom.push {a : Array α} (h : HeapFrom lt a a.size 0) (x : α) : UpInv lt (a.push x) (a.push x).size a.size := by
  have g : ∀ k, k < a.size → (a.push x)[k]! = a[k]! := fun k hk => by simp [getElem!_def, Array.getElem?_push, Nat.ne_of_lt hk]
  refine ⟨fun k k0 kn ke => ?_, fun _ k k0 kn kp => ?_⟩
  · rw [Array.size_push] at kn
    rw [g k (by omega), g _ (by omega)]
    exact h k k0 (by omega) (Nat.zero_le _)
  · rw [Array.size_push] at kn; omega

/-- The last one takes the place of one that goes. -/
theorem HeapFrom.replaced (hO : SWO lt) {a : Array α} (h : HeapFrom lt a a.size 0) (i : Nat) (hi : i < a.size - 1) : DownInv lt (swp a i (a.size - 1)) (a.size - 1) 0 i i := by
  have go : ∀ k, k ≠ i → k < a.size - 1 → (swp a i (a.size - 1))[k]! = a[k]! := fun k h1 h2 => by rw [swp_get a (by omega) (by omega), if_neg (by omega), if_neg h1]
  refine ⟨Nat.le_refl _, fun k k0 kn kl kp ke => ?_, fun h0 _ k k0 kn kp => ?_⟩
  · rw [go k (fun e => ke e rfl) kn, go _ kp (by omega)]
    exact h k k0 (by omega) (Nat.zero_le _)
  · rw [go k (by omega) kn, go _ (by omega) (by omega)]
    have h1 := h k k0 (by omega) (Nat.zero_le _)
    rw [kp] at h1
    exact hO.ntrans _ _ _ h1 (h i h0 (by omega) (Nat.zero_le _))

theorem perm_swp (a : Array α) (i j : Nat) (hi : i < a.size) (hj : j < a.size) : (swp a i j).toList.Perm a.toList := by
  have := (swp_permIn a 0 a.size i j (Nat.zero_le _) hi (Nat.zero_le _) hj (Nat.le_refl _)).2.2
  have e := size_swp a i j
  have h1 : (swp a i j).extract 0 a.size = swp a i j := by
    conv => lhs; arg 3; rw [← e]
    simp
  rwa [h1, show a.extract 0 a.size = a by simp] at this

theorem toList_pop (a : Array α) (h : 0 < a.size) : a.toList = a.pop.toList ++ [a[a.size - 1]!] := by
  have hl : a.toList ≠ [] := by intro e; have := congrArg List.length e; simp at this; subst this; simp at h
  have := List.dropLast_concat_getLast hl
  rw [Array.toList_pop]
  conv => lhs; rw [← this]
  congr 2
  rw [List.getLast_eq_getElem]
  simp [getElem!_def, Array.getElem?_eq_getElem (show a.size - 1 < a.size by omega)]

/-- One that is swapped to the foot and stays there, and is taken off. -/
theorem perm_gone {a b : Array α} (i : Nat) (hi : i < a.size) (hs : b.size = a.size) (hp : b.toList.Perm (swp a i (a.size - 1)).toList) (hl : b[a.size - 1]! = (swp a i (a.size - 1))[a.size - 1]!) : a.toList.Perm (a[i]! :: b.pop.toList) := by
  have h1 := (perm_swp a i (a.size - 1) hi (by omega)).symm.trans hp.symm
  have h2 : b[a.size - 1]! = a[i]! := by rw [hl, swp_get a hi (by omega), if_pos rfl]
  rw [toList_pop b (by omega), hs, h2] at h1
  exact h1.trans List.perm_append_comm

end

/-! ### Sorted lists -/
section
variable {α : Type} {lt : α → α → Bool}

/-- On s: two of which neither is less are one. -/
def Tot (lt : α → α → Bool) (s : List α) : Prop := ∀ x ∈ s, ∀ y ∈ s, lt x y = false → lt y x = false → x = y

/-- x, behind all that are not greater. -/
def ins (lt : α → α → Bool) (x : α) : List α → List α
  | [] => [x]
  | y :: r => if lt x y then x :: y :: r else y :: ins lt x r






theorem Tot.perm {s t : List α} (h : Tot lt s) (p : t.Perm s) : Tot lt t := fun x hx y hy => h x (p.mem_iff.1 hx) y (p.mem_iff.1 hy)



end

section
variable {α : Type} [Inhabited α] {lt : α → α → Bool}

end
end Go.Proofs.YtlignamakiiokaaGreatDoor
