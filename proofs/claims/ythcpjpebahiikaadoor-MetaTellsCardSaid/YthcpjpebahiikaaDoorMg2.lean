/-
  Small words for objects that own several blocks: what a call leaves alone ('Kept'), and how what is owned turns ('Goes').
-/
import Derived.Test.YthcpjpebahiikaaDoorMg1
import Derived.Laws.AppendOwn
import Derived.Laws.OwnMore
import Derived.LoopN
namespace Go.Proofs.YthcpjpebahiikaaDoor
open Go.RowKit

/-- From w to w' nothing has turned but the blocks of F, and new ones. -/
structure Kept (F : List Nat) (w w' : World) : Prop where
  os : w'.os = w.os
  tape : w'.tape = w.tape
  output : w'.output = w.output
  size : w.heap.size ≤ w'.heap.size
  block : ∀ k, k < w.heap.size → k ∉ F → w'.heap[k]? = w.heap[k]?

section
variable {F G : List Nat} {w w' a b c : World}
theorem Kept.refl (F : List Nat) (w : World) : Kept F w w := ⟨rfl, rfl, rfl, Nat.le_refl _, fun _ _ _ => rfl⟩
theorem Kept.trans (h : Kept F a b) (k : Kept F b c) : Kept F a c :=
  ⟨k.os.trans h.os, k.tape.trans h.tape, k.output.trans h.output, Nat.le_trans h.size k.size, fun i hi hn => (k.block i (Nat.lt_of_lt_of_le hi h.size) hn).trans (h.block i hi hn)⟩
theorem Kept.mono (h : Kept F a b) (hs : ∀ k ∈ F, k ∈ G ∨ a.heap.size ≤ k) : Kept G a b :=
  ⟨h.os, h.tape, h.output, h.size, fun i hi hn => h.block i hi (fun hF => (hs i hF).elim hn (fun h2 => absurd hi (by omega)))⟩
theorem Kept.then_ (h : Kept F a b) (k : Kept G b c) (hs : ∀ i ∈ G, i ∈ F ∨ a.heap.size ≤ i) : Kept F a c :=
  ⟨k.os.trans h.os, k.tape.trans h.tape, k.output.trans h.output, Nat.le_trans h.size k.size, fun i hi hn =>
    (k.block i (Nat.lt_of_lt_of_le hi h.size) (fun hG => (hs i hG).elim hn (fun h2 => absurd hi (by omega)))).trans (h.block i hi hn)⟩
theorem Kept.alloc (h : Kept F a b) (o : Obj) : Kept F a (b.alloc o) :=
  h.trans ⟨rfl, rfl, rfl, by simp, fun k hk _ => Below.heap_alloc _ _ _ hk⟩
theorem Kept.setCell (h : Kept F a b) {p : Addr} (hp : p.block ∈ F ∨ a.heap.size ≤ p.block) (u : Value) : Kept F a (b.setCell p u) :=
  ⟨h.os, h.tape, h.output, by simpa [World.setCell] using h.size, fun k hk hn => (Below.heap_setCell b p u k (fun e => by subst e; exact hp.elim hn (fun h2 => absurd hk (by omega)))).trans (h.block k hk hn)⟩
theorem Kept.drewN (h : Kept F a b) (n : Nat) : Kept F a (b.drewN n) := ⟨h.os, h.tape, h.output, h.size, h.block⟩
theorem Kept.drew (h : Kept F a b) : Kept F a b.drew := ⟨h.os, h.tape, h.output, h.size, h.block⟩
theorem Kept.of_below (h : Below w.heap.size w w') : Kept F w w' := ⟨h.os, h.tape, h.output, h.size, fun k hk _ => h.block k hk⟩
theorem Kept.below (h : Kept F w w') {B : Nat} (hB : B ≤ w.heap.size) (hF : ∀ k ∈ F, B ≤ k) : Below B w w' :=
  ⟨h.os, h.tape, h.output, h.size, fun k hk => h.block k (by omega) (fun hk' => by have := hF k hk'; omega)⟩
theorem Kept.of_grown {row : Option Nat} (h : w.grownBy w' row) (hr : ∀ k, row = some k → k ∈ F) : Kept F w w' :=
  ⟨h.os, h.tape, h.output, h.size, fun k hk hn => h.block k hk (fun e => hn (hr k e.symm))⟩
theorem Kept.cell (h : Kept F w w') {p : Addr} (hp : p.block < w.heap.size) (hn : p.block ∉ F) : w'.cell? p = w.cell? p := World.cell?_of_block (h.block p.block hp hn)
theorem Has.kept {g : Nat} {t : TypeId} {cs : Array Value} (h : Has w g t cs) (k : Kept F w w') (hn : g ∉ F) : Has w' g t cs := (k.block g h.inside hn).trans h
theorem Reads1.kept {B : Nat} {v : Value} {xs : List Value} (h : Reads1 w B v xs) (k : Kept F w w') (hB : B ≤ w.heap.size) (hF : ∀ i ∈ F, B ≤ i) : Reads1 w' B v xs := h.below (k.below hB hF)
theorem chan_kept {g : Nat} {o : Obj} (h : w.heap[g]? = some o) (k : Kept F w w') (hn : g ∉ F) : w'.heap[g]? = some o := (k.block g (Array.getElem?_eq_some_iff.1 h).1 hn).trans h
theorem row_kept {base : Nat} {e : TypeId} {size : Nat} {v : Value} {n : Nat} {xs : List Value} (h : w.ownsRow base e size v n xs) (k : Kept F w w') (hn : ∀ g, v.ownBlock = some g → g ∉ F) : w'.ownsRow base e size v n xs := by
  refine ⟨h.1, ?_⟩
  rcases h.2 with hnil | ⟨g, cap, cur, rfl, hb, hg, rest⟩
  · exact .inl hnil
  · exact .inr ⟨g, cap, cur, rfl, hb, chan_kept hg k (hn g rfl), rest⟩

/-- The same, and what is owned turns from F to F': it takes in new blocks at most. -/
def Goes (F : List Nat) (w : World) (F' : List Nat) (w' : World) : Prop := Kept F w w' ∧ ∀ k ∈ F', k ∈ F ∨ w.heap.size ≤ k
theorem Goes.refl (F : List Nat) (w : World) : Goes F w F w := ⟨Kept.refl F w, fun _ h => .inl h⟩
theorem Goes.trans {F' F'' : List Nat} (h : Goes F a F' b) (k : Goes F' b F'' c) : Goes F a F'' c :=
  ⟨⟨k.1.os.trans h.1.os, k.1.tape.trans h.1.tape, k.1.output.trans h.1.output, Nat.le_trans h.1.size k.1.size, fun i hi hn =>
    (k.1.block i (Nat.lt_of_lt_of_le hi h.1.size) (fun hF => (h.2 i hF).elim hn (fun h2 => absurd hi (by omega)))).trans (h.1.block i hi hn)⟩,
   fun i hi => (k.2 i hi).elim (h.2 i) (fun h1 => .inr (Nat.le_trans h.1.size h1))⟩
end

end Go.Proofs.YthcpjpebahiikaaDoor
