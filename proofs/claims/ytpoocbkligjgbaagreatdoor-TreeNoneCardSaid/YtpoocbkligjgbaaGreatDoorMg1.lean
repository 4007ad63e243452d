/-
  Small words for memory: a block that is known whole, and what keeps it. Small words for objects that own several blocks: what a call leaves alone ('Kept'), and how what is owned turns ('Goes'). Heaps, of no program: rows in which no one is less than its parent; what sifting up and sifting down keep; the first one is the least; sorted lists. container/heap, of whatever lies behind the interface: sifting up. container/heap, of whatever lies behind the interface: Init, Push, Pop, Remove.
-/
import Derived.Test.YtpoocbkligjgbaaGreatDoorProg
import Derived.WalkKit
import Derived.WalkSpells
import Derived.WalkLawsBesides
import Derived.Lib.Hide
import Derived.Laws.AppendOwn
import Derived.Laws.OwnMore
import Derived.LoopN
import Derived.Sort.LotA
import Derived.Deep.LoopGhost
namespace Go.Proofs.YtpoocbkligjgbaaGreatDoor
open Go.RowKit

/-- Block g of world w has just the cells cs, of type t; none is frozen. -/
def Has (w : World) (g : Nat) (t : TypeId) (cs : Array Value) : Prop := w.heap[g]? = some (.cells cs t (0, 0))

section
variable {w w' : World} {g : Nat} {t : TypeId} {cs : Array Value}
theorem Has.inside (h : Has w g t cs) : g < w.heap.size := lt_of_block h
theorem Has.cell (h : Has w g t cs) (i : Nat) : w.cell? ⟨g, i, none⟩ = cs[i]? := cell_of_row w g i cs t (0, 0) h
theorem Has.free (h : Has w g t cs) (i : Nat) : w.frozen? ⟨g, i, none⟩ = false := frozen_of_row w g i cs t h
theorem Has.made (w : World) (t : TypeId) (cs : Array Value) : Has (w.alloc (.cells cs t)) w.heap.size t cs := heap_alloc_new w _
theorem Has.alloc (h : Has w g t cs) (o : Obj) : Has (w.alloc o) g t cs := (Below.heap_alloc w o g h.inside).trans h
theorem Has.put (h : Has w g t cs) (i : Nat) (u : Value) : Has (w.setCell ⟨g, i, none⟩ u) g t (cs.setIfInBounds i u) := by
  have h' := h
  unfold Has at h' ⊢
  simp [World.setCell, Array.getElem?_modify, h']
theorem Has.past (h : Has w g t cs) {p : Addr} (hp : g ≠ p.block) (u : Value) : Has (w.setCell p u) g t cs := (Below.heap_setCell w p u g hp).trans h
theorem Has.below {B : Nat} (h : Has w g t cs) (hb : Below B w w') (hg : g < B) : Has w' g t cs := (hb.block g hg).trans h
theorem Has.grown {row : Option Nat} (h : Has w g t cs) (hb : w.grownBy w' row) (hg : some g ≠ row) : Has w' g t cs := (hb.block g h.inside hg).trans h
theorem grownBy_setCell (w : World) (p : Addr) (u : Value) : w.grownBy (w.setCell p u) (some p.block) :=
  ⟨rfl, rfl, rfl, by simp [World.setCell], fun k _ hk => Below.heap_setCell w p u k (fun e => hk (by rw [e]))⟩
theorem grownBy_trans {a b c : World} {row : Option Nat} (h : a.grownBy b row) (k : b.grownBy c row) : a.grownBy c row :=
  ⟨k.os.trans h.os, k.tape.trans h.tape, k.output.trans h.output, Nat.le_trans h.size k.size, fun i hi hn => (k.block i (Nat.lt_of_lt_of_le hi h.size) hn).trans (h.block i hi hn)⟩
theorem grownBy_of_below {a b : World} {row : Option Nat} (h : Below a.heap.size a b) : a.grownBy b row :=
  ⟨h.os, h.tape, h.output, h.size, fun k hk _ => h.block k hk⟩
end

/-- v is a slice that reads as the values xs (one cell each), in blocks below B; what stands where it is empty is not asked. -/
def Reads1 (w : World) (B : Nat) (v : Value) (xs : List Value) : Prop :=
  ∃ (A : Option Addr) (c : Nat), v = .slice A xs.length c ∧ (0 < xs.length → ∃ b off, A = some ⟨b, off, none⟩ ∧ b < B ∧ ∀ (j : Nat) (u : Value), xs[j]? = some u → w.cell? ⟨b, off + j, none⟩ = some u)

theorem Reads1.below {w w' : World} {B : Nat} {v : Value} {xs : List Value} (h : Reads1 w B v xs) (hb : Below B w w') : Reads1 w' B v xs := by
  obtain ⟨A, c, hv, h⟩ := h
  refine ⟨A, c, hv, fun hn => ?_⟩
  obtain ⟨b, off, hA, hlt, hc⟩ := h hn
  exact ⟨b, off, hA, hlt, fun j u hu => (hb.cell (p := ⟨b, off + j, none⟩) hlt).trans (hc j u hu)⟩
theorem Reads1.mono {w : World} {B B' : Nat} {v : Value} {xs : List Value} (h : Reads1 w B v xs) (hB : B ≤ B') : Reads1 w B' v xs := by
  obtain ⟨A, c, hv, h⟩ := h
  refine ⟨A, c, hv, fun hn => ?_⟩
  obtain ⟨b, off, hA, hlt, hc⟩ := h hn
  exact ⟨b, off, hA, by omega, hc⟩
theorem Reads1.built (w : World) (t : TypeId) (cs : Array Value) : Reads1 (w.alloc (.cells cs t)) (w.heap.size + 1) (.slice (some ⟨w.heap.size, 0, none⟩) cs.size cs.size) cs.toList := by
  refine ⟨some ⟨w.heap.size, 0, none⟩, cs.size, by simp, fun _ => ⟨w.heap.size, 0, rfl, by omega, fun j u hu => ?_⟩⟩
  rw [Nat.zero_add, (Has.made w t cs).cell j]
  simpa using hu
theorem Reads1.empty (w : World) (B : Nat) (A : Option Addr) (c : Nat) : Reads1 w B (.slice A 0 c) [] := ⟨A, c, rfl, fun h => absurd h (by simp)⟩

theorem ret_u64 {a b : Int} (h : a = b) : Ending.returned (.int .u64 a) = .returned (.int .u64 b) := by rw [h]
theorem ret_i64 {a b : Int} (h : a = b) : Ending.returned (.int .i64 a) = .returned (.int .i64 b) := by rw [h]
theorem ret_bool {a b : Bool} (h : a = b) : Ending.returned (.bool a) = .returned (.bool b) := by rw [h]

def IsInt (v : Int) : Prop := -9223372036854775808 ≤ v ∧ v ≤ 9223372036854775807

theorem take_snoc1 {α : Type} (l : List α) (k : Nat) (h : k < l.length) : l.take (k + 1) = l.take k ++ [l[k]] := by
  rw [List.take_succ_eq_append_getElem h]

end Go.Proofs.YtpoocbkligjgbaaGreatDoor

namespace Go.Proofs.YtpoocbkligjgbaaGreatDoor
open Go.RowKit

/-- From w to w' nothing has turned but the blocks of F, and new ones. -/
structure Kept (F : List Nat) (w w' : World) : Prop where
  os : w'.os = w.os
  tape : w'.tape = w.tape
  output : w'.output = w.output
  size : w.heap.size ≤ w'.heap.size
  block : ∀ k, k < w.heap.size → k ∉ F → w'.heap[k]? = w.heap[k]?

section
variable {F G : List Nat} {w w' a b c : World}
theorem Kept.refl (F : List Nat) (w : World) : Kept F w w := ⟨rfl, rfl, rfl, Nat.le_refl _, fun _ _ _ => rfl⟩
theorem Kept.trans (h : Kept F a b) (k : Kept F b c) : Kept F a c :=
  ⟨k.os.trans h.os, k.tape.trans h.tape, k.output.trans h.output, Nat.le_trans h.size k.size, fun i hi hn => (k.block i (Nat.lt_of_lt_of_le hi h.size) hn).trans (h.block i hi hn)⟩
theorem Kept.mono (h : Kept F a b) (hs : ∀ k ∈ F, k ∈ G ∨ a.heap.size ≤ k) : Kept G a b :=
  ⟨h.os, h.tape, h.output, h.size, fun i hi hn => h.block i hi (fun hF => (hs i hF).elim hn (fun h2 => absurd hi (by omega)))⟩
theorem Kept.then_ (h : Kept F a b) (k : Kept G b c) (hs : ∀ i ∈ G, i ∈ F ∨ a.heap.size ≤ i) : Kept F a c :=
  ⟨k.os.trans h.os, k.tape.trans h.tape, k.output.trans h.output, Nat.le_trans h.size k.size, fun i hi hn =>
    (k.block i (Nat.lt_of_lt_of_le hi h.size) (fun hG => (hs i hG).elim hn (fun h2 => absurd hi (by omega)))).trans (h.block i hi hn)⟩
theorem Kept.alloc (h : Kept F a b) (o : Obj) : Kept F a (b.alloc o) :=
  h.trans ⟨rfl, rfl, rfl, by simp, fun k hk _ => Below.heap_alloc _ _ _ hk⟩
theorem Kept.setCell (h : Kept F a b) {p : Addr} (hp : p.block ∈ F ∨ a.heap.size ≤ p.block) (u : Value) : Kept F a (b.setCell p u) :=
  ⟨h.os, h.tape, h.output, by simpa [World.setCell] using h.size, fun k hk hn => (Below.heap_setCell b p u k (fun e => by subst e; exact hp.elim hn (fun h2 => absurd hk (by omega)))).trans (h.block k hk hn)⟩
theorem Kept.drewN (h : Kept F a b) (n : Nat) : Kept F a (b.drewN n) := ⟨h.os, h.tape, h.output, h.size, h.block⟩
theorem Kept.drew (h : Kept F a b) : Kept F a b.drew := ⟨h.os, h.tape, h.output, h.size, h.block⟩
theorem Kept.of_below (h : Below w.heap.size w w') : Kept F w w' := ⟨h.os, h.tape, h.output, h.size, fun k hk _ => h.block k hk⟩
theorem Kept.below (h : Kept F w w') {B : Nat} (hB : B ≤ w.heap.size) (hF : ∀ k ∈ F, B ≤ k) : Below B w w' :=
  ⟨h.os, h.tape, h.output, h.size, fun k hk => h.block k (by omega) (fun hk' => by have := hF k hk'; omega)⟩
theorem Kept.of_grown {row : Option Nat} (h : w.grownBy w' row) (hr : ∀ k, row = some k → k ∈ F) : Kept F w w' :=
  ⟨h.os, h.tape, h.output, h.size, fun k hk hn => h.block k hk (fun e => hn (hr k e.symm))⟩
theorem Kept.cell (h : Kept F w w') {p : Addr} (hp : p.block < w.heap.size) (hn : p.block ∉ F) : w'.cell? p = w.cell? p := World.cell?_of_block (h.block p.block hp hn)
theorem Has.kept {g : Nat} {t : TypeId} {cs : Array Value} (h : Has w g t cs) (k : Kept F w w') (hn : g ∉ F) : Has w' g t cs := (k.block g h.inside hn).trans h
theorem Reads1.kept {B : Nat} {v : Value} {xs : List Value} (h : Reads1 w B v xs) (k : Kept F w w') (hB : B ≤ w.heap.size) (hF : ∀ i ∈ F, B ≤ i) : Reads1 w' B v xs := h.below (k.below hB hF)
theorem chan_kept {g : Nat} {o : Obj} (h : w.heap[g]? = some o) (k : Kept F w w') (hn : g ∉ F) : w'.heap[g]? = some o := (k.block g (Array.getElem?_eq_some_iff.1 h).1 hn).trans h
theorem row_kept {base : Nat} {e : TypeId} {size : Nat} {v : Value} {n : Nat} {xs : List Value} (h : w.ownsRow base e size v n xs) (k : Kept F w w') (hn : ∀ g, v.ownBlock = some g → g ∉ F) : w'.ownsRow base e size v n xs := by
  refine ⟨h.1, ?_⟩
  rcases h.2 with hnil | ⟨g, cap, cur, rfl, hb, hg, rest⟩
  · exact .inl hnil
  · exact .inr ⟨g, cap, cur, rfl, hb, chan_kept hg k (hn g rfl), rest⟩

/-- The same, and what is owned turns from F to F': it takes in new blocks at most. -/
def Goes (F : List Nat) (w : World) (F' : List Nat) (w' : World) : Prop := Kept F w w' ∧ ∀ k ∈ F', k ∈ F ∨ w.heap.size ≤ k
theorem Goes.refl (F : List Nat) (w : World) : Goes F w F w := ⟨Kept.refl F w, fun _ h => .inl h⟩
theorem Goes.trans {F' F'' : List Nat} (h : Goes F a F' b) (k : Goes F' b F'' c) : Goes F a F'' c :=
  ⟨⟨k.1.os.trans h.1.os, k.1.tape.trans h.1.tape, k.1.output.trans h.1.output, Nat.le_trans h.1.size k.1.size, fun i hi hn =>
    (k.1.block i (Nat.lt_of_lt_of_le hi h.1.size) (fun hF => (h.2 i hF).elim hn (fun h2 => absurd hi (by omega)))).trans (h.1.block i hi hn)⟩,
   fun i hi => (k.2 i hi).elim (h.2 i) (fun h1 => .inr (Nat.le_trans h.1.size h1))⟩
end

end Go.Proofs.YtpoocbkligjgbaaGreatDoor

namespace Go.Proofs.YtpoocbkligjgbaaGreatDoor
open Go.Sort

section
variable {α : Type} [Inhabited α] {lt : α → α → Bool}

/-- No place from lo's children on holds less than its parent. -/
def HeapFrom (lt : α → α → Bool) (a : Array α) (n lo : Nat) : Prop := ∀ k, 0 < k → k < n → lo ≤ (k - 1) / 2 → lt a[k]! a[(k - 1) / 2]! = false

/-- Sifting down stands at i, begun at i0. -/
structure DownInv (lt : α → α → Bool) (a : Array α) (n lo i0 i : Nat) : Prop where
  le : i0 ≤ i
  up : ∀ k, 0 < k → k < n → lo ≤ (k - 1) / 2 → (k - 1) / 2 ≠ i → (k = i0 → i ≠ i0) → lt a[k]! a[(k - 1) / 2]! = false
  gr : 0 < i → lo ≤ (i - 1) / 2 → ∀ k, 0 < k → k < n → (k - 1) / 2 = i → lt a[k]! a[(i - 1) / 2]! = false

/-- Sifting up stands at j. -/
structure UpInv (lt : α → α → Bool) (a : Array α) (n j : Nat) : Prop where
  ok : ∀ k, 0 < k → k < n → k ≠ j → lt a[k]! a[(k - 1) / 2]! = false
  gr : 0 < j → ∀ k, 0 < k → k < n → (k - 1) / 2 = j → lt a[k]! a[(j - 1) / 2]! = false

omit [Inhabited α] in
theorem lt_asym (hO : SWO lt) {x y : α} (h : lt x y = true) : lt y x = false := by
  cases h2 : lt y x with
  | false => rfl
  | true => have := hO.trans x y x h h2; rw [hO.irrefl] at this; cases this

omit [Inhabited α] in
theorem not_lt_of (hO : SWO lt) {x y z : α} (h : lt x y = false) (k : lt z y = true) : lt x z = false := by
  cases h2 : lt x z with
  | false => rfl
  | true => have := hO.trans x z y h2 k; rw [h] at this; cases this

omit [Inhabited α] in
/-- What is not less than y, which is not less than z, is not less than z. -/
theorem not_lt_of_low (hO : SWO lt) {x y z : α} (h : lt x y = false) (k : lt y z = false) : lt x z = false := hO.ntrans _ _ _ h k

theorem DownInv.step (hO : SWO lt) {a : Array α} {n lo i0 i j : Nat} (h : DownInv lt a n lo i0 i) (_hlo : lo ≤ i0) (hn : n ≤ a.size) (hj0 : 0 < j) (hj : j < n) (hp : (j - 1) / 2 = i) (hl : lt a[j]! a[i]! = true)
    (hs : ∀ k, 0 < k → k < n → (k - 1) / 2 = i → lt a[k]! a[j]! = false) : DownInv lt (swp a i j) n lo i0 j := by
  have hle := h.le
  have hij : i < j := by omega
  have g := fun k => swp_get a (i := i) (j := j) (by omega) (by omega) k
  have gi : (swp a i j)[i]! = a[j]! := by rw [g, if_neg (by omega), if_pos rfl]
  have gj : (swp a i j)[j]! = a[i]! := by rw [g, if_pos rfl]
  have go : ∀ k, k ≠ i → k ≠ j → (swp a i j)[k]! = a[k]! := fun k h1 h2 => by rw [g, if_neg h2, if_neg h1]
  refine ⟨by omega, fun k k0 kn kl kp _ => ?_, fun _ _ k k0 kn kp => ?_⟩
  · by_cases e1 : k = j
    · subst e1; rw [gj, hp, gi]; exact lt_asym hO hl
    · by_cases e2 : k = i
      · subst e2
        rw [gi, go _ (by omega) (by omega)]
        exact h.gr k0 kl j hj0 hj hp
      · rw [go k e2 e1]
        by_cases e3 : (k - 1) / 2 = i
        · rw [e3, gi]; exact hs k k0 kn e3
        · rw [go _ e3 kp]
          exact h.up k k0 kn kl e3 (fun e => by omega)
  · rw [go k (by omega) (by omega), hp, gi]
    have := h.up k k0 kn (by omega) (by omega) (by omega)
    rwa [kp] at this

theorem DownInv.done {a : Array α} {n lo i0 i : Nat} (h : DownInv lt a n lo i0 i) (hs : ∀ k, 0 < k → k < n → (k - 1) / 2 = i → lt a[k]! a[i]! = false) (hm : i ≠ i0 ∨ i0 = 0 ∨ (i0 - 1) / 2 < lo) : HeapFrom lt a n lo := fun k k0 kn kl => by
  by_cases e : (k - 1) / 2 = i
  · rw [e]; exact hs k k0 kn e
  · exact h.up k k0 kn kl e (fun e2 => by subst e2; rcases hm with hm | hm | hm <;> omega)


theorem UpInv.step (hO : SWO lt) {a : Array α} {n j : Nat} (h : UpInv lt a n j) (hn : n ≤ a.size) (hj0 : 0 < j) (hj : j < n) (hl : lt a[j]! a[(j - 1) / 2]! = true) : UpInv lt (swp a ((j - 1) / 2) j) n ((j - 1) / 2) := by
  generalize hi : (j - 1) / 2 = i at *
  have hij : i < j := by omega
  have g := fun k => swp_get a (i := i) (j := j) (by omega) (by omega) k
  have gi : (swp a i j)[i]! = a[j]! := by rw [g, if_neg (by omega), if_pos rfl]
  have gj : (swp a i j)[j]! = a[i]! := by rw [g, if_pos rfl]
  have go : ∀ k, k ≠ i → k ≠ j → (swp a i j)[k]! = a[k]! := fun k h1 h2 => by rw [g, if_neg h2, if_neg h1]
  refine ⟨fun k k0 kn ke => ?_, fun h0 k k0 kn kp => ?_⟩
  · by_cases e1 : k = j
    · subst e1; rw [gj, hi, gi]; exact lt_asym hO hl
    · rw [go k ke e1]
      by_cases e3 : (k - 1) / 2 = i
      · rw [e3, gi]
        have := h.ok k k0 kn e1
        rw [e3] at this
        exact not_lt_of hO this hl
      · by_cases e4 : (k - 1) / 2 = j
        · rw [e4, gj]; have := h.gr hj0 k k0 kn e4; rwa [hi] at this
        · rw [go _ e3 e4]; exact h.ok k k0 kn e1
  · have hik := h.ok i h0 (by omega) (by omega)
    rw [go _ (show (i - 1) / 2 ≠ i by omega) (by omega)]
    by_cases e1 : k = j
    · subst e1; rw [gj]; exact hik
    · rw [go k (by omega) e1]
      have := h.ok k k0 kn e1
      rw [kp] at this
      exact hO.ntrans _ _ _ this hik

theorem UpInv.done {a : Array α} {n j : Nat} (h : UpInv lt a n j) (hs : 0 < j → lt a[j]! a[(j - 1) / 2]! = false) : HeapFrom lt a n 0 := fun k k0 kn _ => by
  by_cases e : k = j
  · subst e; exact hs k0
  · exact h.ok k k0 kn e

theorem HeapFrom.least (hO : SWO lt) {a : Array α} {n : Nat} (h : HeapFrom lt a n 0) : ∀ k, k < n → lt a[k]! a[0]! = false := by
  intro k
  induction k using Nat.strongRecOn with
  | _ k ih =>
    intro kn
    by_cases e : k = 0
    · subst e; exact hO.irrefl _
    · exact hO.ntrans _ _ _ (h k (by omega) kn (Nat.zero_le _)) (ih ((k - 1) / 2) (by omega) (by omega))


theorem HeapFrom.below {a : Array α} {n i : Nat} (h : HeapFrom lt a n (i + 1)) : DownInv lt a n i i i :=
  ⟨Nat.le_refl _, fun k k0 kn kl kp _ => h k k0 kn (by omega), fun h0 h1 => by omega⟩

theorem get_pop (a : Array α) (k : Nat) (hk : k < a.size - 1) : a.pop[k]! = a[k]! := by
  rw [getElem!_def, getElem!_def, Array.getElem?_pop, if_pos hk]

theorem HeapFrom.pop {a : Array α} (h : HeapFrom lt a (a.size - 1) 0) : HeapFrom lt a.pop a.pop.size 0 := fun k k0 kn kl => by
  rw [Array.size_pop] at kn
  rw [get_pop a k kn, get_pop a _ (by omega)]
  exact h k k0 kn kl

/-- What is put to the foot of a heap is sifted up. -/
theorem HeapFrom.push {a : Array α} (h : HeapFrom lt a a.size 0) (x : α) : UpInv lt (a.push x) (a.push x).size a.size := by
  have g : ∀ k, k < a.size → (a.push x)[k]! = a[k]! := fun k hk => by simp [getElem!_def, Array.getElem?_push, Nat.ne_of_lt hk]
  refine ⟨fun k k0 kn ke => ?_, fun _ k k0 kn kp => ?_⟩
  · rw [Array.size_push] at kn
    rw [g k (by omega), g _ (by omega)]
    exact h k k0 (by omega) (Nat.zero_le _)
  · rw [Array.size_push] at kn; omega

/-- The last one takes the place of one that goes. -/
theorem HeapFrom.replaced (hO : SWO lt) {a : Array α} (h : HeapFrom lt a a.size 0) (i : Nat) (hi : i < a.size - 1) : DownInv lt (swp a i (a.size - 1)) (a.size - 1) 0 i i := by
  have go : ∀ k, k ≠ i → k < a.size - 1 → (swp a i (a.size - 1))[k]! = a[k]! := fun k h1 h2 => by rw [swp_get a (by omega) (by omega), if_neg (by omega), if_neg h1]
  refine ⟨Nat.le_refl _, fun k k0 kn kl kp ke => ?_, fun h0 _ k k0 kn kp => ?_⟩
  · rw [go k (fun e => ke e rfl) kn, go _ kp (by omega)]
    exact h k k0 (by omega) (Nat.zero_le _)
  · rw [go k (by omega) kn, go _ (by omega) (by omega)]
    have h1 := h k k0 (by omega) (Nat.zero_le _)
    rw [kp] at h1
    exact hO.ntrans _ _ _ h1 (h i h0 (by omega) (Nat.zero_le _))

theorem perm_swp (a : Array α) (i j : Nat) (hi : i < a.size) (hj : j < a.size) : (swp a i j).toList.Perm a.toList := by
  have := (swp_permIn a 0 a.size i j (Nat.zero_le _) hi (Nat.zero_le _) hj (Nat.le_refl _)).2.2
  have e := size_swp a i j
  have h1 : (swp a i j).extract 0 a.size = swp a i j := by
    conv => lhs; arg 3; rw [← e]
    simp
  rwa [h1, show a.extract 0 a.size = a by simp] at this

theorem toList_pop (a : Array α) (h : 0 < a.size) : a.toList = a.pop.toList ++ [a[a.size - 1]!] := by
  have hl : a.toList ≠ [] := by intro e; have := congrArg List.length e; simp at this; subst this; simp at h
  have := List.dropLast_concat_getLast hl
  rw [Array.toList_pop]
  conv => lhs; rw [← this]
  congr 2
  rw [List.getLast_eq_getElem]
  simp [getElem!_def, Array.getElem?_eq_getElem (show a.size - 1 < a.size by omega)]

/-- One that is swapped to the foot and stays there, and is taken off. -/
theorem perm_gone {a b : Array α} (i : Nat) (hi : i < a.size) (hs : b.size = a.size) (hp : b.toList.Perm (swp a i (a.size - 1)).toList) (hl : b[a.size - 1]! = (swp a i (a.size - 1))[a.size - 1]!) : a.toList.Perm (a[i]! :: b.pop.toList) := by
  have h1 := (perm_swp a i (a.size - 1) hi (by omega)).symm.trans hp.symm
  have h2 : b[a.size - 1]! = a[i]! := by rw [hl, swp_get a hi (by omega), if_pos rfl]
  rw [toList_pop b (by omega), hs, h2] at h1
  exact h1.trans List.perm_append_comm

end

/-! ### Sorted lists -/
section
variable {α : Type} {lt : α → α → Bool}

/-- On s: two of which neither is less are one. -/
def Tot (lt : α → α → Bool) (s : List α) : Prop := ∀ x ∈ s, ∀ y ∈ s, lt x y = false → lt y x = false → x = y

/-- x, behind all that are not greater. -/
def ins (lt : α → α → Bool) (x : α) : List α → List α
  | [] => [x]
  | y :: r => if lt x y then x :: y :: r else y :: ins lt x r






theorem Tot.perm {s t : List α} (h : Tot lt s) (p : t.Perm s) : Tot lt t := fun x hx y hy => h x (p.mem_iff.1 hx) y (p.mem_iff.1 hy)



end

section
variable {α : Type} [Inhabited α] {lt : α → α → Bool}

end
end Go.Proofs.YtpoocbkligjgbaaGreatDoor

namespace Go.Proofs.YtpoocbkligjgbaaGreatDoor
open Go.RowKit Go.Sort

/-- What lies behind a heap's interface value: its five methods, and what each does to the row that it holds. -/
structure HO (T : TypeId) (rv : Value) (fl fe fs fp fo : Nat) {α : Type} [Inhabited α] (lt : α → α → Bool) (box : α → Value) (At : World → List Nat → Array α → Prop) : Prop where
  mLen : ∀ w, Sem.run Tryz.prog (method 511 T rv "Len") w = .ok (fl, rv) w
  mLess : ∀ w, Sem.run Tryz.prog (method 511 T rv "Less") w = .ok (fe, rv) w
  mSwap : ∀ w, Sem.run Tryz.prog (method 511 T rv "Swap") w = .ok (fs, rv) w
  mPush : ∀ w, Sem.run Tryz.prog (method 511 T rv "Push") w = .ok (fp, rv) w
  mPop : ∀ w, Sem.run Tryz.prog (method 511 T rv "Pop") w = .ok (fo, rv) w
  eLen : ∀ args w, (callFunc fl args).run Tryz.prog w = .ok (.enter fl args) w
  eLess : ∀ args w, (callFunc fe args).run Tryz.prog w = .ok (.enter fe args) w
  eSwap : ∀ args w, (callFunc fs args).run Tryz.prog w = .ok (.enter fs args) w
  ePush : ∀ args w, (callFunc fp args).run Tryz.prog w = .ok (.enter fp args) w
  ePop : ∀ args w, (callFunc fo args).run Tryz.prog w = .ok (.enter fo args) w
  swo : SWO lt
  few : ∀ {w F a}, At w F a → a.size ≤ 1000000
  len : ∀ {w F a}, At w F a → Calls Tryz.prog fl #[rv] w fun e w' => e = .returned (.int .i64 (a.size : Nat)) ∧ w' = w
  less : ∀ {w F a} (i j : Nat), At w F a → i < a.size → j < a.size → Calls Tryz.prog fe #[rv, .int .i64 i, .int .i64 j] w fun e w' => e = .returned (.bool (lt a[i]! a[j]!)) ∧ At w' F a ∧ Kept F w w'
  swap : ∀ {w F a} (i j : Nat), At w F a → i < a.size → j < a.size → Calls Tryz.prog fs #[rv, .int .i64 i, .int .i64 j] w fun e w' => e = .returned (.tuple #[]) ∧ At w' F (swp a i j) ∧ Kept F w w'
  push : ∀ {w F a} (x : α), At w F a → a.size < 1000000 → Calls Tryz.prog fp #[rv, box x] w fun e w' => e = .returned (.tuple #[]) ∧ ∃ F', At w' F' (a.push x) ∧ Goes F w F' w'
  pop : ∀ {w F a}, At w F a → 0 < a.size → Calls Tryz.prog fo #[rv] w fun e w' => e = .returned (box a[a.size - 1]!) ∧ At w' F a.pop ∧ Kept F w w'

section
variable {T : TypeId} {rv : Value} {fl fe fs fp fo : Nat} {α : Type} [Inhabited α] {lt : α → α → Bool} {box : α → Value} {At : World → List Nat → Array α → Prop}

/-- What sifting leaves of a row: its size, what stands in it, what stands behind n. -/
structure Sifted (a a' : Array α) (n : Nat) : Prop where
  size : a'.size = a.size
  perm : a'.toList.Perm a.toList
  rest : ∀ k, n ≤ k → a'[k]! = a[k]!

theorem Sifted.refl (a : Array α) (n : Nat) : Sifted a a n := ⟨rfl, List.Perm.refl _, fun _ _ => rfl⟩
theorem Sifted.swp {a a' : Array α} {n i j : Nat} (h : Sifted a a' n) (hi : i < n) (hj : j < n) (hn : n ≤ a.size) : Sifted a (swp a' i j) n :=
  ⟨(size_swp _ _ _).trans h.size, (perm_swp a' i j (by rw [h.size]; omega) (by rw [h.size]; omega)).trans h.perm, fun k hk => (swp_other a' i j k (by omega) (by omega)).trans (h.rest k hk)⟩
theorem Sifted.trans {a b c : Array α} {n : Nat} (h : Sifted a b n) (k : Sifted b c n) : Sifted a c n := ⟨k.size.trans h.size, k.perm.trans h.perm, fun i hi => (k.rest i hi).trans (h.rest i hi)⟩

/-- Where sifting up stands, and what it leaves. -/
def UpAt (lt : α → α → Bool) (At : World → List Nat → Array α → Prop) (w : World) (F : List Nat) (a : Array α) (n i : Nat) (wr : World) : Prop :=
  ∃ b, Sifted a b n ∧ UpInv lt b n i ∧ At wr F b ∧ Kept F w wr
def UpEnd (lt : α → α → Bool) (At : World → List Nat → Array α → Prop) (w : World) (F : List Nat) (a : Array α) (n : Nat) (w' : World) : Prop :=
  ∃ b, Sifted a b n ∧ HeapFrom lt b n 0 ∧ At w' F b ∧ Kept F w w'

set_option maxRecDepth 100000 in
set_option maxHeartbeats 1000000 in
theorem up_at (O : HO T rv fl fe fs fp fo lt box At) {w : World} {F : List Nat} {a : Array α} (n j : Nat) (h : At w F a) (hn : n ≤ a.size) (hj : j < n) (hU : UpInv lt a n j) :
    Calls Tryz.prog 147 #[.iface T rv, .int .i64 j] w fun e w' => e = .returned (.tuple #[]) ∧ UpEnd lt At w F a n w' := by
  have mLess := O.mLess; have mSwap := O.mSwap; have eLess := O.eLess; have eSwap := O.eSwap
  have hfew := O.few h
  have HO' := Lib.hid O
  have HB := Lib.hid hn
  have hn' : n ≤ 1000000 := by omega
  have HS := Lib.hid (show UpAt lt At w F a n j w from ⟨a, Sifted.refl _ _, hU, h, Kept.refl _ _⟩)
  clear h hU O hn hfew
  go_enter Tryz.func147, Tryz.ntmps147
  go_wp2_with fail
  go_loopg [1] n (fun g v1 wr => ∃ i : Nat, v1 = .int .i64 i ∧ i < n ∧ i ≤ g ∧ UpAt lt At w F a n i wr)
  case atStart => exact ⟨j, rfl, hj, by omega, HS.out⟩
  case round =>
    clear HS
    obtain ⟨i, rfl, hi, hg, HR0⟩ := hrel
    have HR := Lib.hid HR0
    clear HR0
    rcases Nat.eq_zero_or_pos i with h0 | h0
    · subst h0
      go_wp2_with fail
      go_end0
      obtain ⟨b, hs, hu, ha, hk⟩ := HR.out
      exact ⟨rfl, b, hs, hu.done (fun h => absurd h (by omega)), ha, hk⟩
    · have hle : i ≤ 1000000 := by omega
      have hi1 : (1 : Int) ≤ i := by omega
      obtain ⟨p, hp⟩ : ∃ p : Nat, ((i : Int) - 1) / 2 = p := ⟨(i - 1) / 2, by omega⟩
      have hne : ((p : Int) == i) = false := by simp; omega
      obtain ⟨b, hs, hu, ha, hk⟩ := HR.out
      have hsz : i < b.size := by rw [hs.size]; exact Nat.lt_of_lt_of_le hi HB.out
      have hl := HO'.out.less i p ha hsz (by omega)
      have HL := Lib.hid (And.intro hs (And.intro hu (And.intro hk hsz)))
      clear hs hu ha hk hsz HR
      cases hlt : lt b[i]! b[p]!
      · rw [hlt] at hl
        have HLT := Lib.hid hlt
        clear hlt
        go_wp2_with fail
        refine hl.mono ?_
        rintro e wk ⟨rfl, ha, hk⟩
        have HK := Lib.hid (And.intro ha hk)
        clear ha hk hl
        go_wp2_with fail
        go_end0
        obtain ⟨hs, hu, hk0, hsz⟩ := HL.out
        exact ⟨rfl, b, hs, hu.done (fun _ => by rw [show (i - 1) / 2 = p by omega]; exact HLT.out), HK.out.1, hk0.trans HK.out.2⟩
      · rw [hlt] at hl
        have HLT := Lib.hid hlt
        clear hlt
        go_wp2_with fail
        refine hl.mono ?_
        rintro e wk ⟨rfl, ha, hk⟩
        have hsw := HO'.out.swap p i ha (by have := HL.out.2.2.2; omega) HL.out.2.2.2
        have HK := Lib.hid hk
        clear ha hk hl
        go_wp2_with fail
        refine hsw.mono ?_
        rintro e wl ⟨rfl, ha, hk⟩
        have HA := Lib.hid (And.intro ha hk)
        clear ha hk hsw
        go_wp2
        go_roundg p
        case measure => omega
        case rel =>
          obtain ⟨hs, hu, hk0, hsz⟩ := HL.out
          have hnb : n ≤ b.size := by rw [hs.size]; exact HB.out
          have hst := hu.step HO'.out.swo hnb h0 hi (by rw [show (i - 1) / 2 = p by omega]; exact HLT.out)
          rw [show (i - 1) / 2 = p by omega] at hst
          exact ⟨p, by rw [← hp], by omega, by omega, _, hs.swp (by omega) hi HB.out, hst, HA.out.1, (hk0.trans HK.out).trans HA.out.2⟩

/-- Where sifting down stands, and what it leaves. -/
def DownAt (lt : α → α → Bool) (At : World → List Nat → Array α → Prop) (w : World) (F : List Nat) (a : Array α) (n lo i0 i : Nat) (wr : World) : Prop :=
  ∃ b, Sifted a b n ∧ DownInv lt b n lo i0 i ∧ At wr F b ∧ Kept F w wr
def DownEnd (lt : α → α → Bool) (At : World → List Nat → Array α → Prop) (w : World) (F : List Nat) (a : Array α) (n lo i0 : Nat) (e : Ending) (w' : World) : Prop :=
  ∃ b i, e = .returned (.bool (decide (i0 < i))) ∧ Sifted a b n ∧ DownInv lt b n lo i0 i ∧ (∀ k, 0 < k → k < n → (k - 1) / 2 = i → lt b[k]! b[i]! = false) ∧ At w' F b ∧ Kept F w w'

set_option maxRecDepth 100000 in
set_option maxHeartbeats 2000000 in
theorem down_at (O : HO T rv fl fe fs fp fo lt box At) {w : World} {F : List Nat} {a : Array α} (n lo i0 : Nat) (h : At w F a) (hn : n ≤ a.size) (hi0 : i0 ≤ n) (hlo : lo ≤ i0) (hD : DownInv lt a n lo i0 i0) :
    Calls Tryz.prog 146 #[.iface T rv, .int .i64 i0, .int .i64 n] w (DownEnd lt At w F a n lo i0) := by
  have mLess := O.mLess; have mSwap := O.mSwap; have eLess := O.eLess; have eSwap := O.eSwap
  have hfew := O.few h
  have HO' := Lib.hid O
  have HB := Lib.hid (And.intro hn hlo)
  have hn' : n ≤ 1000000 := by omega
  have HS := Lib.hid (show DownAt lt At w F a n lo i0 i0 w from ⟨a, Sifted.refl _ _, hD, h, Kept.refl _ _⟩)
  clear h hD O hn hfew hlo
  go_enter Tryz.func146, Tryz.ntmps146
  go_wp2_with fail
  go_loopg [7] (n - i0) (fun g v wr => ∃ i : Nat, v = .int .i64 i ∧ i0 ≤ i ∧ i ≤ n ∧ n - i ≤ g ∧ DownAt lt At w F a n lo i0 i wr)
  case atStart => exact ⟨i0, rfl, Nat.le_refl _, hi0, Nat.le_refl _, HS.out⟩
  case round =>
    clear HS
    obtain ⟨i, rfl, hi0i, hin, hg, HR0⟩ := hrel
    have hle : i ≤ 1000000 := by omega
    obtain ⟨j1, hj1⟩ : ∃ j : Nat, 2 * (i : Int) + 1 = j := ⟨2 * i + 1, by omega⟩
    have hj1' : j1 ≤ 2000001 := by omega
    have hb0 : decide ((j1 : Int) < 0) = false := by simp
    by_cases hend : n ≤ j1
    · have hb1 : decide (n ≤ j1) = true := by simpa using hend
      have HR := Lib.hid (And.intro HR0 (show 2 * i + 1 = j1 by omega))
      clear HR0
      go_wp2_with fail
      go_ret
      obtain ⟨⟨b, hs, hu, ha, hk⟩, he⟩ := HR.out
      exact ⟨b, i, rfl, hs, hu, fun k k0 kn kp => absurd kn (by omega), ha, hk⟩
    · have hb1 : decide (n ≤ j1) = false := by simpa using hend
      obtain ⟨j2, hj2⟩ : ∃ j : Nat, (j1 : Int) + 1 = j := ⟨j1 + 1, by omega⟩
      have hj2' : j2 ≤ 2000002 := by omega
      have hin' : i < n := by omega
      obtain ⟨b, hs, hu, ha, hk⟩ := HR0
      have hsz : n ≤ b.size := by rw [hs.size]; exact HB.out.1
      by_cases hc : j2 < n
      · have hb2 : decide (j2 < n) = true := by simpa using hc
        have hl := HO'.out.less j2 j1 ha (by omega) (by omega)
        have HL := Lib.hid (And.intro hs (And.intro hu (And.intro hk hsz)))
        clear hs hu ha hk hsz
        cases hlj : lt b[j2]! b[j1]!
        · rw [hlj] at hl
          have HM := Lib.hid (show ∀ k, 0 < k → k < n → (k - 1) / 2 = i → lt b[k]! b[j1]! = false from fun k k0 kn kp => by
            rcases (show k = j1 ∨ k = j2 by omega) with rfl | rfl
            · exact HO'.out.swo.irrefl _
            · exact hlj)
          clear hlj
          go_wp2_with fail
          refine hl.mono ?_
          rintro e wk ⟨rfl, ha, hk⟩
          have HA := Lib.hid (And.intro ha hk)
          clear ha hk hl
          have hl2 := HO'.out.less j1 i HA.out.1 (by have := HL.out.2.2.2; omega) (by have := HL.out.2.2.2; omega)
          cases hlt : lt b[j1]! b[i]!
          · rw [hlt] at hl2
            have HLT := Lib.hid hlt
            clear hlt
            go_wp2_with fail
            refine hl2.mono ?_
            rintro e wl ⟨rfl, ha, hk⟩
            have HK := Lib.hid (And.intro ha hk)
            clear ha hk hl2
            go_wp2_with fail
            go_ret
            obtain ⟨hs, hu, hk0, hsz⟩ := HL.out
            exact ⟨b, i, rfl, hs, hu, fun k k0 kn kp => not_lt_of_low HO'.out.swo (HM.out k k0 kn kp) HLT.out, HK.out.1, (hk0.trans HA.out.2).trans HK.out.2⟩
          · rw [hlt] at hl2
            have HLT := Lib.hid hlt
            clear hlt
            go_wp2_with fail
            refine hl2.mono ?_
            rintro e wl ⟨rfl, ha, hk⟩
            have hsw := HO'.out.swap i j1 ha (by have := HL.out.2.2.2; omega) (by have := HL.out.2.2.2; omega)
            have HK := Lib.hid hk
            clear ha hk hl2
            go_wp2_with fail
            refine hsw.mono ?_
            rintro e wm ⟨rfl, ha, hk⟩
            have HB2 := Lib.hid (And.intro ha hk)
            clear ha hk hsw
            go_wp2
            go_roundg (n - j1)
            case measure => omega
            case rel =>
              obtain ⟨hs, hu, hk0, hsz⟩ := HL.out
              exact ⟨j1, rfl, by omega, by omega, Nat.le_refl _, _, hs.swp (by omega) (by omega) HB.out.1, hu.step HO'.out.swo HB.out.2 hsz (by omega) (by omega) (by omega) HLT.out HM.out, HB2.out.1, ((hk0.trans HA.out.2).trans HK.out).trans HB2.out.2⟩
        · rw [hlj] at hl
          have HM := Lib.hid (show ∀ k, 0 < k → k < n → (k - 1) / 2 = i → lt b[k]! b[j2]! = false from fun k k0 kn kp => by
            rcases (show k = j1 ∨ k = j2 by omega) with rfl | rfl
            · exact lt_asym HO'.out.swo hlj
            · exact HO'.out.swo.irrefl _)
          clear hlj
          go_wp2_with fail
          refine hl.mono ?_
          rintro e wk ⟨rfl, ha, hk⟩
          have HA := Lib.hid (And.intro ha hk)
          clear ha hk hl
          have hl2 := HO'.out.less j2 i HA.out.1 (by have := HL.out.2.2.2; omega) (by have := HL.out.2.2.2; omega)
          cases hlt : lt b[j2]! b[i]!
          · rw [hlt] at hl2
            have HLT := Lib.hid hlt
            clear hlt
            go_wp2_with fail
            refine hl2.mono ?_
            rintro e wl ⟨rfl, ha, hk⟩
            have HK := Lib.hid (And.intro ha hk)
            clear ha hk hl2
            go_wp2_with fail
            go_ret
            obtain ⟨hs, hu, hk0, hsz⟩ := HL.out
            exact ⟨b, i, rfl, hs, hu, fun k k0 kn kp => not_lt_of_low HO'.out.swo (HM.out k k0 kn kp) HLT.out, HK.out.1, (hk0.trans HA.out.2).trans HK.out.2⟩
          · rw [hlt] at hl2
            have HLT := Lib.hid hlt
            clear hlt
            go_wp2_with fail
            refine hl2.mono ?_
            rintro e wl ⟨rfl, ha, hk⟩
            have hsw := HO'.out.swap i j2 ha (by have := HL.out.2.2.2; omega) (by have := HL.out.2.2.2; omega)
            have HK := Lib.hid hk
            clear ha hk hl2
            go_wp2_with fail
            refine hsw.mono ?_
            rintro e wm ⟨rfl, ha, hk⟩
            have HB2 := Lib.hid (And.intro ha hk)
            clear ha hk hsw
            go_wp2
            go_roundg (n - j2)
            case measure => omega
            case rel =>
              obtain ⟨hs, hu, hk0, hsz⟩ := HL.out
              exact ⟨j2, rfl, by omega, by omega, Nat.le_refl _, _, hs.swp (by omega) (by omega) HB.out.1, hu.step HO'.out.swo HB.out.2 hsz (by omega) (by omega) (by omega) HLT.out HM.out, HB2.out.1, ((hk0.trans HA.out.2).trans HK.out).trans HB2.out.2⟩
      · have hb2 : decide (j2 < n) = false := by simpa using hc
        have HL := Lib.hid (And.intro hs (And.intro hu (And.intro hk hsz)))
        have HA := Lib.hid (And.intro ha (Kept.refl F wr))
        clear hs hu ha hk hsz
        have HM := Lib.hid (show ∀ k, 0 < k → k < n → (k - 1) / 2 = i → lt b[k]! b[j1]! = false from fun k k0 kn kp => by
          obtain rfl : k = j1 := by omega
          exact HO'.out.swo.irrefl _)
        have hl2 := HO'.out.less j1 i HA.out.1 (by have := HL.out.2.2.2; omega) (by have := HL.out.2.2.2; omega)
        cases hlt : lt b[j1]! b[i]!
        · rw [hlt] at hl2
          have HLT := Lib.hid hlt
          clear hlt
          go_wp2_with fail
          refine hl2.mono ?_
          rintro e wl ⟨rfl, ha, hk⟩
          have HK := Lib.hid (And.intro ha hk)
          clear ha hk hl2
          go_wp2_with fail
          go_ret
          obtain ⟨hs, hu, hk0, hsz⟩ := HL.out
          exact ⟨b, i, rfl, hs, hu, fun k k0 kn kp => not_lt_of_low HO'.out.swo (HM.out k k0 kn kp) HLT.out, HK.out.1, (hk0.trans HA.out.2).trans HK.out.2⟩
        · rw [hlt] at hl2
          have HLT := Lib.hid hlt
          clear hlt
          go_wp2_with fail
          refine hl2.mono ?_
          rintro e wl ⟨rfl, ha, hk⟩
          have hsw := HO'.out.swap i j1 ha (by have := HL.out.2.2.2; omega) (by have := HL.out.2.2.2; omega)
          have HK := Lib.hid hk
          clear ha hk hl2
          go_wp2_with fail
          refine hsw.mono ?_
          rintro e wm ⟨rfl, ha, hk⟩
          have HB2 := Lib.hid (And.intro ha hk)
          clear ha hk hsw
          go_wp2
          go_roundg (n - j1)
          case measure => omega
          case rel =>
            obtain ⟨hs, hu, hk0, hsz⟩ := HL.out
            exact ⟨j1, rfl, by omega, by omega, Nat.le_refl _, _, hs.swp (by omega) (by omega) HB.out.1, hu.step HO'.out.swo HB.out.2 hsz (by omega) (by omega) (by omega) HLT.out HM.out, HB2.out.1, ((hk0.trans HA.out.2).trans HK.out).trans HB2.out.2⟩
end
end Go.Proofs.YtpoocbkligjgbaaGreatDoor

namespace Go.Proofs.YtpoocbkligjgbaaGreatDoor
open Go.RowKit Go.Sort

section
variable {T : TypeId} {rv : Value} {fl fe fs fp fo : Nat} {α : Type} [Inhabited α] {lt : α → α → Bool} {box : α → Value} {At : World → List Nat → Array α → Prop}

/-- What a call leaves: a heap of what stands in l. -/
def HeapOf (lt : α → α → Bool) (At : World → List Nat → Array α → Prop) (F : List Nat) (l : List α) (w' : World) : Prop := ∃ b, At w' F b ∧ HeapFrom lt b b.size 0 ∧ b.toList.Perm l
def PushEnd (lt : α → α → Bool) (At : World → List Nat → Array α → Prop) (w : World) (F : List Nat) (l : List α) (w' : World) : Prop := ∃ F', HeapOf lt At F' l w' ∧ Goes F w F' w'
def KeptEnd (lt : α → α → Bool) (At : World → List Nat → Array α → Prop) (w : World) (F : List Nat) (l : List α) (w' : World) : Prop := HeapOf lt At F l w' ∧ Kept F w w'

set_option maxRecDepth 100000 in
set_option maxHeartbeats 1000000 in
theorem hpush_at (O : HO T rv fl fe fs fp fo lt box At) {w : World} {F : List Nat} {a : Array α} (x : α) (h : At w F a) (hh : HeapFrom lt a a.size 0) (hs : a.size < 1000000) :
    Calls Tryz.prog 103 #[.iface T rv, box x] w fun e w' => e = .returned (.tuple #[]) ∧ PushEnd lt At w F (x :: a.toList) w' := by
  have mLen := O.mLen; have mPush := O.mPush; have eLen := O.eLen; have ePush := O.ePush
  have hp := O.push x h hs
  have HO' := Lib.hid O
  have HH := Lib.hid hh
  clear h hh O
  generalize hbx : box x = bx at *
  clear hbx
  go_enter Tryz.func103, Tryz.ntmps103
  go_wp2_with fail
  refine hp.mono ?_
  rintro e w1 ⟨rfl, F', ha1, hg1⟩
  have hl1 := HO'.out.len ha1
  obtain ⟨n, hn⟩ : ∃ n, n = a.size := ⟨_, rfl⟩
  rw [show (a.push x).size = n + 1 by simp [hn]] at hl1
  have HA := Lib.hid (And.intro ha1 (And.intro hg1 hn))
  have hnb : n < 1000000 := by omega
  clear ha1 hg1 hn hp hs
  go_wp2_with fail
  refine hl1.mono ?_
  rintro e w' ⟨rfl, rfl⟩
  clear hl1
  have hup := up_at HO'.out (n + 1) n HA.out.1 (by simp [HA.out.2.2]) (by omega) (by rw [HA.out.2.2]; have h := HeapFrom.push HH.out x; rwa [Array.size_push] at h)
  go_wp2_with fail
  refine hup.mono ?_
  rintro e w2 ⟨rfl, b, hs, hb, hab, hk⟩
  have HE := Lib.hid (And.intro hs (And.intro hb (And.intro hab hk)))
  clear hs hb hab hk hup
  go_wp2_with fail
  go_end0
  obtain ⟨hs, hb, hab, hk⟩ := HE.out
  have hz : b.size = n + 1 := by rw [hs.size, Array.size_push, HA.out.2.2]
  refine ⟨rfl, F', ⟨b, hab, by rw [hz]; exact hb, hs.perm.trans ?_⟩, HA.out.2.1.trans ⟨hk, fun k hk => .inl hk⟩⟩
  rw [Array.toList_push]
  exact List.perm_append_singleton _ _


set_option maxRecDepth 100000 in
set_option maxHeartbeats 1000000 in
theorem hpop_at (O : HO T rv fl fe fs fp fo lt box At) {w : World} {F : List Nat} {a : Array α} (l : List α) (h : At w F a) (hh : HeapFrom lt a a.size 0) (hs : 0 < a.size) (hl : a.toList.Perm (a[0]! :: l)) :
    Calls Tryz.prog 102 #[.iface T rv] w fun e w' => e = .returned (box a[0]!) ∧ KeptEnd lt At w F l w' := by
  have mLen := O.mLen; have mSwap := O.mSwap; have mPop := O.mPop; have eLen := O.eLen; have eSwap := O.eSwap; have ePop := O.ePop
  obtain ⟨n, hn⟩ : ∃ n, a.size = n + 1 := ⟨a.size - 1, by omega⟩
  have hln := O.len h
  rw [hn] at hln
  have hnb : n < 1000000 := by have := O.few h; omega
  have hsw := O.swap 0 n h (by omega) (by omega)
  have hdi : DownInv lt (swp a 0 n) n 0 0 0 := by
    rcases Nat.eq_zero_or_pos n with h0 | h0
    · subst h0
      exact ⟨Nat.le_refl _, fun k k0 kn => by omega, fun h0 => by omega⟩
    · have := hh.replaced O.swo 0 (by omega)
      rwa [hn] at this
  have HO' := Lib.hid O
  have HH := Lib.hid (And.intro hn (And.intro hdi hl))
  clear h hh O hn hdi hl hs
  go_enter Tryz.func102, Tryz.ntmps102
  go_wp2_with fail
  refine hln.mono ?_
  rintro e w' ⟨rfl, rfl⟩
  clear hln
  go_wp2_with fail
  refine hsw.mono ?_
  rintro e w1 ⟨rfl, ha, hk⟩
  have hdo := down_at HO'.out n 0 0 ha (by rw [size_swp, HH.out.1]; omega) (by omega) (Nat.le_refl _) HH.out.2.1
  have HK := Lib.hid hk
  clear ha hk hsw
  go_wp2_with fail
  refine hdo.mono ?_
  rintro e w2 ⟨b, i, rfl, hs, hu, hc, ha, hk⟩
  have hbz : b.size = n + 1 := by rw [hs.size, size_swp, HH.out.1]
  have hpo := HO'.out.pop ha (by omega)
  have hb : HeapFrom lt b n 0 := hu.done hc (.inr (.inl rfl))
  have he : b[b.size - 1]! = a[0]! := by
    rw [hbz, Nat.add_sub_cancel, hs.rest n (Nat.le_refl _), swp_get a (by rw [HH.out.1]; omega) (by rw [HH.out.1]; omega), if_pos rfl]
  rw [he] at hpo
  have HB := Lib.hid (And.intro hs (And.intro hb (And.intro hk hbz)))
  clear hs hb hk hbz hu hc ha hdo he
  go_wp2_with fail
  refine hpo.mono ?_
  rintro e w3 ⟨rfl, ha, hk⟩
  have HC := Lib.hid (And.intro ha hk)
  clear ha hk hpo
  go_wp2_with fail
  go_ret
  obtain ⟨hs, hb, hk2, hbz⟩ := HB.out
  refine ⟨rfl, ⟨b.pop, HC.out.1, HeapFrom.pop (by rw [hbz, Nat.add_sub_cancel]; exact hb), ?_⟩, (HK.out.trans hk2).trans HC.out.2⟩
  have hg := perm_gone (a := a) (b := b) 0 (by rw [HH.out.1]; omega) (by rw [hbz, HH.out.1]) (by rw [HH.out.1, Nat.add_sub_cancel]; exact hs.perm) (by rw [HH.out.1, Nat.add_sub_cancel]; exact hs.rest n (Nat.le_refl _))
  exact List.Perm.cons_inv (hg.symm.trans HH.out.2.2)



end
end Go.Proofs.YtpoocbkligjgbaaGreatDoor
