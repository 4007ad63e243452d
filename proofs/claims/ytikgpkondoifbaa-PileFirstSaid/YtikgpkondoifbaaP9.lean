/-
  A pile and a line side by side: more calls; the least one of a list of distinct Seqs.
-/
import Derived.Test.YtikgpkondoifbaaP8
namespace Go.Proofs.Ytikgpkondoifbaa
open Go.RowKit Go.Sort

/-- No two have one Seq. -/
def Distinct (m : List Due) : Prop := (m.map fun d => d.2.1).Nodup
theorem Distinct.perm {m n : List Due} (h : Distinct m) (hp : m.Perm n) : Distinct n := (hp.map _).nodup_iff.1 h

theorem due_le {x y : Due} (h : ltDue y x = false) (hne : x.2.1 ≠ y.2.1) : ltDue x y = true := by
  simp only [ltDue, decide_eq_false_iff_not, decide_eq_true_eq] at *
  omega

theorem due_least (m : List Due) (h : m ≠ []) (hd : Distinct m) : ∃ x s, m.Perm (x :: s) ∧ (∀ y ∈ s, ltDue x y = true) ∧ Distinct s := by
  have hp := isort_perm (lt := ltDue) m
  have hs := isort_srt swo_due m
  cases hi : isort ltDue m with
  | nil =>
    rw [hi] at hp
    exact absurd (List.Perm.nil_eq hp).symm h
  | cons x s =>
    rw [hi] at hp hs
    have hdx : Distinct (x :: s) := hd.perm hp.symm
    have h2 := List.nodup_cons.1 (show ((x :: s).map fun d => d.2.1).Nodup from hdx)
    refine ⟨x, s, hp.symm, fun y hy => due_le ((List.pairwise_cons.1 hs).1 y hy) (fun e => ?_), h2.2⟩
    have hin : x.2.1 ∈ s.map fun d : Due => d.2.1 := by
      rw [e]
      exact List.mem_map_of_mem (f := fun d : Due => d.2.1) hy
    exact h2.1 hin

theorem int_least (m : List Int) (h : m ≠ []) : ∃ x s, m.Perm (x :: s) ∧ ∀ y ∈ s, x ≤ y := by
  have hp := List.mergeSort_perm m leInt
  have hs := srt_le m
  cases hi : m.mergeSort leInt with
  | nil =>
    rw [hi] at hp
    exact absurd (List.Perm.nil_eq hp).symm h
  | cons x s =>
    rw [hi] at hp hs
    exact ⟨x, s, hp.symm, (List.pairwise_cons.1 hs).1⟩

section
variable {base : Nat} {w : World} {p q sq : Nat} {l : List Int} {m : List Due} {S : List Nat}

theorem both_first {x : Int} {s : List Int} (h : Both base w p l q sq m S) (hp : l.Perm (x :: s)) (hm : ∀ y ∈ s, x ≤ y) :
    Calls Try.prog 10 #[.pointer (some ⟨p, 0, none⟩)] w fun e w' => e = .returned (.tuple #[.int .i64 x, .bool true]) ∧ w' = w := by
  obtain ⟨F, G, h1, h2, h3, h4, h5, h6⟩ := h
  exact first_some h1 hp hm
theorem both_first_none (h : Both base w p [] q sq m S) :
    Calls Try.prog 10 #[.pointer (some ⟨p, 0, none⟩)] w fun e w' => e = .returned (.tuple #[.int .i64 0, .bool false]) ∧ w' = w := by
  obtain ⟨F, G, h1, h2, h3, h4, h5, h6⟩ := h
  exact first_none h1
theorem both_take_none (h : Both base w p [] q sq m S) :
    Calls Try.prog 9 #[.pointer (some ⟨p, 0, none⟩)] w fun e w' => e = .returned (.tuple #[.int .i64 0, .bool false]) ∧ w' = w := by
  obtain ⟨F, G, h1, h2, h3, h4, h5, h6⟩ := h
  exact take_none h1
theorem both_lfirst {x : Due} {s : List Due} (h : Both base w p l q sq m S) (hb : base ≤ w.heap.size) (hp : m.Perm (x :: s)) (hm : ∀ y ∈ s, ltDue x y = true) :
    Calls Try.prog 12 #[.pointer (some ⟨q, 0, none⟩)] w fun e w' => e = .returned (.tuple #[dval x, .bool true]) ∧ Both base w' p l q sq m S ∧ Leaves base S w w' := by
  obtain ⟨F, G, h1, h2, h3, h4, h5, h6⟩ := id h
  refine (lfirst_some h2 hp hm).mono ?_
  rintro e w' ⟨rfl, hb'⟩
  exact ⟨rfl, both_quiet h hb hb'⟩
theorem both_lfirst_none (h : Both base w p l q sq [] S) (hb : base ≤ w.heap.size) :
    Calls Try.prog 12 #[.pointer (some ⟨q, 0, none⟩)] w fun e w' => e = .returned (.tuple #[dzero, .bool false]) ∧ Both base w' p l q sq [] S ∧ Leaves base S w w' := by
  obtain ⟨F, G, h1, h2, h3, h4, h5, h6⟩ := id h
  refine (lfirst_none h2).mono ?_
  rintro e w' ⟨rfl, hb'⟩
  exact ⟨rfl, both_quiet h hb hb'⟩
theorem both_ltake_none (now : Int) (h : Both base w p l q sq [] S) (hb : base ≤ w.heap.size) :
    Calls Try.prog 11 #[.pointer (some ⟨q, 0, none⟩), .int .i64 now] w fun e w' => e = .returned (.tuple #[dzero, .bool false]) ∧ Both base w' p l q sq [] S ∧ Leaves base S w w' := by
  obtain ⟨F, G, h1, h2, h3, h4, h5, h6⟩ := id h
  refine (ltake_none now h2).mono ?_
  rintro e w' ⟨rfl, hb'⟩
  exact ⟨rfl, both_quiet h hb hb'⟩
theorem both_llen (h : Both base w p l q sq m S) :
    Calls Try.prog 15 #[.pointer (some ⟨q, 0, none⟩)] w fun e w' => e = .returned (.int .i64 (m.length : Nat)) ∧ w' = w := by
  obtain ⟨F, G, h1, h2, h3, h4, h5, h6⟩ := h
  exact llen_any h2
end

theorem below_drewn (B : Nat) (w : World) (k : Nat) : Below B w (w.drewN k) := ⟨rfl, rfl, rfl, Nat.le_refl _, fun _ _ => rfl⟩

/-! ### A line alone -/
def Lin (base : Nat) (w : World) (q : Nat) (sq : Nat) (m : List Due) : Prop := ∃ G, LineIs q sq w G m ∧ ∀ k ∈ G, base ≤ k
section
variable {base : Nat} {w w' : World} {q sq : Nat} {m : List Due}
theorem Lin.below (h : Lin base w q sq m) (hb : Below w.heap.size w w') : Lin base w' q sq m := by
  obtain ⟨F, h1, h2⟩ := h
  exact ⟨F, h1.below hb, h2⟩
theorem Lin.perm {n : List Due} (h : Lin base w q sq m) (hp : m.Perm n) : Lin base w q sq n := by
  obtain ⟨F, h1, h2⟩ := h
  exact ⟨F, h1.perm hp, h2⟩
theorem lin_new (w : World) : Calls Try.prog 21 #[] w fun e w' => e = .returned (.pointer (some ⟨w.heap.size, 0, none⟩)) ∧ Lin w.heap.size w' w.heap.size 0 [] ∧ Below w.heap.size w w' := by
  refine (newLine_any w).mono ?_
  rintro e w' ⟨rfl, hl, hb⟩
  exact ⟨rfl, ⟨_, hl, by simp⟩, hb⟩
theorem lin_put (t x : Int) (h : Lin base w q sq m) (hb : base ≤ w.heap.size) (hl : m.length < 1000000) (hsq : sq ≤ 1000000) :
    Calls Try.prog 18 #[.pointer (some ⟨q, 0, none⟩), .int .i64 t, .int .i64 x] w fun e w' => e = .returned (.int .i64 ((sq + 1 : Nat) : Int)) ∧ Lin base w' q (sq + 1) ((t, ((sq + 1 : Nat) : Int), x) :: m) ∧ Below base w w' := by
  obtain ⟨F, h1, h2⟩ := h
  refine (lput_any t x h1 hl hsq).mono ?_
  rintro e w' ⟨rfl, G', hl', hg⟩
  exact ⟨rfl, ⟨G', hl', fun k hk => (hg.2 k hk).elim (h2 k) (fun h => by omega)⟩, hg.1.below hb h2⟩
theorem lin_take {x : Due} {s : List Due} (now : Int) (h : Lin base w q sq m) (hb : base ≤ w.heap.size) (hp : m.Perm (x :: s)) (hm : ∀ y ∈ s, ltDue x y = true) (hn : x.1 ≤ now) :
    Calls Try.prog 11 #[.pointer (some ⟨q, 0, none⟩), .int .i64 now] w fun e w' => e = .returned (.tuple #[dval x, .bool true]) ∧ Lin base w' q sq s ∧ Below base w w' := by
  obtain ⟨F, h1, h2⟩ := h
  refine (ltake_due now h1 hp hm hn).mono ?_
  rintro e w' ⟨rfl, hl', hk⟩
  exact ⟨rfl, ⟨F, hl', h2⟩, hk.below hb h2⟩
theorem lin_late {x : Due} {s : List Due} (now : Int) (h : Lin base w q sq m) (hp : m.Perm (x :: s)) (hm : ∀ y ∈ s, ltDue x y = true) (hn : now < x.1) :
    Calls Try.prog 11 #[.pointer (some ⟨q, 0, none⟩), .int .i64 now] w fun e w' => e = .returned (.tuple #[dzero, .bool false]) ∧ Below w.heap.size w w' := by
  obtain ⟨F, h1, h2⟩ := h
  exact ltake_late now h1 hp hm hn
theorem lin_none (now : Int) (h : Lin base w q sq []) :
    Calls Try.prog 11 #[.pointer (some ⟨q, 0, none⟩), .int .i64 now] w fun e w' => e = .returned (.tuple #[dzero, .bool false]) ∧ Below w.heap.size w w' := by
  obtain ⟨F, h1, h2⟩ := h
  exact ltake_none now h1
theorem lin_len (h : Lin base w q sq m) :
    Calls Try.prog 15 #[.pointer (some ⟨q, 0, none⟩)] w fun e w' => e = .returned (.int .i64 (m.length : Nat)) ∧ w' = w := by
  obtain ⟨F, h1, h2⟩ := h
  exact llen_any h1
end
end Go.Proofs.Ytikgpkondoifbaa
