/-
  A pile of the law's own: what each call does to what it holds.
-/
import Derived.Test.YtikgpkondoifbaaP7
namespace Go.Proofs.Ytikgpkondoifbaa
open Go.RowKit Go.Sort

/-- A pile at p in blocks that are made since base. -/
def Pil (base : Nat) (w : World) (p : Nat) (l : List Int) : Prop := ∃ F, PileIs p w F l ∧ ∀ k ∈ F, base ≤ k

section
variable {base : Nat} {w w' : World} {p : Nat} {l m : List Int}
theorem Pil.below (h : Pil base w p l) (hb : Below w.heap.size w w') : Pil base w' p l := by
  obtain ⟨F, h1, h2⟩ := h
  exact ⟨F, h1.below hb, h2⟩
theorem Pil.perm (h : Pil base w p l) (hp : l.Perm m) : Pil base w p m := by
  obtain ⟨F, h1, h2⟩ := h
  exact ⟨F, h1.perm hp, h2⟩

theorem pil_new {v : Value} (h : ReadsO [] w v (l.map (.int .i64))) (hl : l.length ≤ 1000000) :
    Calls Try.prog 20 #[v] w fun e w' => e = .returned (.pointer (some ⟨w.heap.size, 0, none⟩)) ∧ Pil w.heap.size w' w.heap.size l ∧ Below w.heap.size w w' := new_any h hl

theorem pil_put {v : Value} {xs : List Int} (h : Pil base w p l) (hb : base ≤ w.heap.size) (hv : ∀ F, (∀ k ∈ F, base ≤ k ∧ k < w.heap.size) → PileIs p w F l → ReadsO F w v (xs.map (.int .i64))) (hl : xs.length + l.length ≤ 1000000) :
    Calls Try.prog 8 #[.pointer (some ⟨p, 0, none⟩), v] w fun e w' => e = .returned (.tuple #[]) ∧ Pil base w' p (xs ++ l) ∧ Below base w w' := by
  obtain ⟨F, h1, h2⟩ := h
  refine (put_any h1 (hv F (fun k hk => ⟨h2 k hk, h1.lt k hk⟩) h1) hl).mono ?_
  rintro e w' ⟨rfl, F', hp, hg⟩
  exact ⟨rfl, ⟨F', hp, fun k hk => (hg.2 k hk).elim (h2 k) (fun h => by omega)⟩, hg.1.below hb h2⟩

/-- One number, in a row that was just made for it. -/
theorem pil_put1 (x : Int) (h : Pil base w p l) (hb : base ≤ w.heap.size) (hl : l.length < 1000000) :
    Calls Try.prog 8 #[.pointer (some ⟨p, 0, none⟩), .slice (some ⟨w.heap.size, 0, none⟩) 1 1] (w.alloc (.cells #[.int .i64 x] 3)) fun e w' => e = .returned (.tuple #[]) ∧ Pil base w' p (x :: l) ∧ Below base w w' := by
  have hb0 : Below w.heap.size w (w.alloc (.cells #[.int .i64 x] 3)) := (Below.refl _ _).alloc (Nat.le_refl _) _
  have hlt : ∀ F, PileIs p w F l → ∀ k ∈ F, k < w.heap.size := fun F hF => hF.lt
  obtain ⟨F, h1, h2⟩ := h
  have hro : ReadsO F (w.alloc (.cells #[.int .i64 x] 3)) (.slice (some ⟨w.heap.size, 0, none⟩) 1 1) ([x].map (.int .i64)) :=
    ⟨some ⟨w.heap.size, 0, none⟩, 1, rfl, fun _ => ⟨w.heap.size, 0, rfl, by simp, fun hF => by have := hlt F h1 _ hF; omega, fun j u hu => by
      rw [Nat.zero_add, (Has.made w 3 #[.int .i64 x]).cell j]
      simpa using hu⟩⟩
  refine (put_any (h1.below hb0) hro (by simp; omega)).mono ?_
  rintro e w' ⟨rfl, F', hp, hg⟩
  refine ⟨rfl, ⟨F', hp, fun k hk => (hg.2 k hk).elim (h2 k) (fun h => by have := hb0.size; omega)⟩, (hb0.mono hb).trans (hg.1.below (by have := hb0.size; omega) h2)⟩

theorem pil_take {x : Int} {s : List Int} (h : Pil base w p l) (hb : base ≤ w.heap.size) (hp : l.Perm (x :: s)) (hm : ∀ y ∈ s, x ≤ y) :
    Calls Try.prog 9 #[.pointer (some ⟨p, 0, none⟩)] w fun e w' => e = .returned (.tuple #[.int .i64 x, .bool true]) ∧ Pil base w' p s ∧ Below base w w' := by
  obtain ⟨F, h1, h2⟩ := h
  refine (take_some h1 hp hm).mono ?_
  rintro e w' ⟨rfl, hp', hk⟩
  exact ⟨rfl, ⟨F, hp', h2⟩, hk.below hb h2⟩

theorem pil_take_none (h : Pil base w p []) :
    Calls Try.prog 9 #[.pointer (some ⟨p, 0, none⟩)] w fun e w' => e = .returned (.tuple #[.int .i64 0, .bool false]) ∧ w' = w := by
  obtain ⟨F, h1, h2⟩ := h
  exact take_none h1

theorem pil_drop (x : Int) (h : Pil base w p l) (hb : base ≤ w.heap.size) :
    Calls Try.prog 19 #[.pointer (some ⟨p, 0, none⟩), .int .i64 x] w fun e w' => e = .returned (.bool (decide (x ∈ l))) ∧ Pil base w' p (l.erase x) ∧ Below base w w' := by
  obtain ⟨F, h1, h2⟩ := h
  refine (drop_any x h1).mono ?_
  rintro e w' ⟨rfl, hp', hk⟩
  exact ⟨rfl, ⟨F, hp', h2⟩, hk.below hb h2⟩

theorem pil_len (h : Pil base w p l) :
    Calls Try.prog 14 #[.pointer (some ⟨p, 0, none⟩)] w fun e w' => e = .returned (.int .i64 (l.length : Nat)) ∧ w' = w := by
  obtain ⟨F, h1, h2⟩ := h
  exact len_any h1

theorem pil_first {x : Int} {s : List Int} (h : Pil base w p l) (hp : l.Perm (x :: s)) (hm : ∀ y ∈ s, x ≤ y) :
    Calls Try.prog 10 #[.pointer (some ⟨p, 0, none⟩)] w fun e w' => e = .returned (.tuple #[.int .i64 x, .bool true]) ∧ w' = w := by
  obtain ⟨F, h1, h2⟩ := h
  exact first_some h1 hp hm

theorem pil_first_none (h : Pil base w p []) :
    Calls Try.prog 10 #[.pointer (some ⟨p, 0, none⟩)] w fun e w' => e = .returned (.tuple #[.int .i64 0, .bool false]) ∧ w' = w := by
  obtain ⟨F, h1, h2⟩ := h
  exact first_none h1

theorem pil_list (h : Pil base w p l) :
    Calls Try.prog 16 #[.pointer (some ⟨p, 0, none⟩)] w fun e w' => ∃ v', e = .returned v' ∧ w'.ownsRow w.heap.size 3 1 v' l.length ((l.mergeSort leInt).map (.int .i64)) ∧ Below w.heap.size w w' := by
  obtain ⟨F, h1, h2⟩ := h
  exact list_any h1
end

/-- A cell of what came in. -/
theorem Reads1.at {w w' : World} {B : Nat} {v : Value} {l : List Int} (h : Reads1 w B v (l.map (.int .i64))) (hb : Below B w w') (k : Nat) (hk : k < l.length) :
    ∃ b off c, v = .slice (some ⟨b, off, none⟩) l.length c ∧ b < B ∧ w'.cell? ⟨b, off + k, none⟩ = some (.int .i64 l[k]) := by
  obtain ⟨A, c, rfl, h⟩ := h
  obtain ⟨b, off, rfl, hlt, hc⟩ := h (by simp; omega)
  exact ⟨b, off, c, by simp, hlt, (hb.cell (p := ⟨b, off + k, none⟩) hlt).trans (hc k _ (by simp [hk]))⟩
theorem Reads1.form {w : World} {B : Nat} {v : Value} {l : List Int} (h : Reads1 w B v (l.map (.int .i64))) : ∃ A c, v = .slice A l.length c := by
  obtain ⟨A, c, rfl, h⟩ := h
  exact ⟨A, c, by simp⟩
end Go.Proofs.Ytikgpkondoifbaa
