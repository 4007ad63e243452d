/-
  Free pages in memory: two piles and a line in one block, each to be turned by itself. The least one of a list of distinct Seqs, and of numbers. What is put into a line, one behind the other. The calls of free pages, but Release and All.
-/
import Derived.Test.YtjimjemogbphaaaGreatMg24
import Derived.Test.YtjimjemogbphaaaGreatMg25
namespace Go.Proofs.YtjimjemogbphaaaGreat
open Go.RowKit Go.Sort

def spotF (s v1 v2 : Value) : Spot 0 := ⟨47, fun v => #[v, s, v1, v2], fun _ => rfl, fun _ _ => rfl⟩
def spotW (v0 v2 : Value) : Spot2 1 := ⟨47, fun s v => #[v0, s, v, v2], fun _ _ => rfl, fun _ _ => rfl, fun _ _ _ => rfl, fun _ _ _ => rfl⟩
def spotP (v0 s v1 : Value) : Spot 3 := ⟨47, fun v => #[v0, s, v1, v], fun _ => rfl, fun _ _ => rfl⟩

/-- A row of numbers that is a heap of what stands in l. -/
def NRow (w : World) (p : Nat) (v : Value) (l : List Int) : Prop :=
  ∃ a : Array Int, w.ownsRow 0 3 1 v a.size (ints a) ∧ (∀ g, v.ownBlock = some g → g ≠ p) ∧ a.size ≤ 1000000 ∧ HeapFrom ltInt a a.size 0 ∧ a.toList.Perm l
/-- A row of what is due that is a heap of what stands in l. -/
def DRow (w : World) (p : Nat) (v : Value) (l : List Due) : Prop :=
  ∃ a : Array Due, w.ownsRow 0 94 3 v a.size (dlist a.toList) ∧ (∀ g, v.ownBlock = some g → g ≠ p) ∧ a.size ≤ 1000000 ∧ HeapFrom ltDue a a.size 0 ∧ a.toList.Perm l

section
variable {w w' : World} {p o : Nat} {v : Value} {F G : List Nat}
theorem NRow.kept {l : List Int} (h : NRow w p v l) (hk : Kept G w w') (hn : ∀ g, v.ownBlock = some g → g ∉ G) : NRow w' p v l := by
  obtain ⟨a, h1, h2, h3, h4, h5⟩ := h
  exact ⟨a, row_kept h1 hk hn, h2, h3, h4, h5⟩
theorem DRow.kept {l : List Due} (h : DRow w p v l) (hk : Kept G w w') (hn : ∀ g, v.ownBlock = some g → g ∉ G) : DRow w' p v l := by
  obtain ⟨a, h1, h2, h3, h4, h5⟩ := h
  exact ⟨a, row_kept h1 hk hn, h2, h3, h4, h5⟩
theorem NRow.lt {l : List Int} (h : NRow w p v l) (g : Nat) (hg : v.ownBlock = some g) : g < w.heap.size := by
  obtain ⟨a, h1, _⟩ := h
  exact (h1.lt g hg).2
theorem DRow.lt {l : List Due} (h : DRow w p v l) (g : Nat) (hg : v.ownBlock = some g) : g < w.heap.size := by
  obtain ⟨a, h1, _⟩ := h
  exact (h1.lt g hg).2
theorem NRow.ne {l : List Int} (h : NRow w p v l) (g : Nat) (hg : v.ownBlock = some g) : g ≠ p := by
  obtain ⟨a, _, h2, _⟩ := h
  exact h2 g hg
theorem DRow.ne {l : List Due} (h : DRow w p v l) (g : Nat) (hg : v.ownBlock = some g) : g ≠ p := by
  obtain ⟨a, _, h2, _⟩ := h
  exact h2 g hg
theorem NRow.nil (w : World) (p : Nat) : NRow w p (.slice none 0 0) [] := ⟨#[], World.ownsRow_nil _ _ _ _, by simp [Value.ownBlock], by simp, fun k _ hk => absurd hk (by simp), List.Perm.refl _⟩
theorem DRow.nil (w : World) (p : Nat) : DRow w p (.slice none 0 0) [] := ⟨#[], World.ownsRow_nil _ _ _ _, by simp [Value.ownBlock], by simp, fun k _ hk => absurd hk (by simp), List.Perm.refl _⟩
theorem NRow.perm {l m : List Int} (h : NRow w p v l) (hp : l.Perm m) : NRow w p v m := by
  obtain ⟨a, h1, h2, h3, h4, h5⟩ := h
  exact ⟨a, h1, h2, h3, h4, h5.trans hp⟩
theorem DRow.perm {l m : List Due} (h : DRow w p v l) (hp : l.Perm m) : DRow w p v m := by
  obtain ⟨a, h1, h2, h3, h4, h5⟩ := h
  exact ⟨a, h1, h2, h3, h4, h5.trans hp⟩

theorem pile_of {S : Spot o} {l : List Int} (hp : Has w p S.t (S.K v)) (h : NRow w p v l) : PileIs p S w (p :: v.ownBlock.toList) l := by
  obtain ⟨a, h1, h2, h3, h4, h5⟩ := h
  exact ⟨a, ⟨v, hp, h1, h2, rfl, h3⟩, h4, h5⟩
theorem of_pile {S : Spot o} {l : List Int} (h : PileIs p S w F l) : ∃ v, Has w p S.t (S.K v) ∧ NRow w p v l ∧ F = p :: v.ownBlock.toList := by
  obtain ⟨a, ⟨v, hp, h1, h2, rfl, h3⟩, h4, h5⟩ := h
  exact ⟨v, hp, ⟨a, h1, h2, h3, h4, h5⟩, rfl⟩
theorem line_of {S : Spot2 o} {sq : Int} {l : List Due} (hp : Has w p S.t (S.K (.int .i64 sq) v)) (h : DRow w p v l) : LineIs p S sq w (p :: v.ownBlock.toList) l := by
  obtain ⟨a, h1, h2, h3, h4, h5⟩ := h
  exact ⟨a, ⟨v, hp, h1, h2, rfl, h3⟩, h4, h5⟩
theorem of_line {S : Spot2 o} {sq : Int} {l : List Due} (h : LineIs p S sq w F l) : ∃ v, Has w p S.t (S.K (.int .i64 sq) v) ∧ DRow w p v l ∧ F = p :: v.ownBlock.toList := by
  obtain ⟨a, ⟨v, hp, h1, h2, rfl, h3⟩, h4, h5⟩ := h
  exact ⟨v, hp, ⟨a, h1, h2, h3, h4, h5⟩, rfl⟩
end

/-- Free pages at p: l are free, m wait (the last Seq is sq), k are pinned. -/
def FreeIs (p : Nat) (w : World) (F : List Nat) (l : List Int) (sq : Int) (m : List Due) (k : List Int) : Prop :=
  ∃ v0 v1 v2, Has w p 47 #[v0, .int .i64 sq, v1, v2] ∧ NRow w p v0 l ∧ DRow w p v1 m ∧ NRow w p v2 k ∧
    (∀ g, v0.ownBlock = some g → v1.ownBlock ≠ some g ∧ v2.ownBlock ≠ some g) ∧ (∀ g, v1.ownBlock = some g → v2.ownBlock ≠ some g) ∧
    F = p :: (v0.ownBlock.toList ++ v1.ownBlock.toList ++ v2.ownBlock.toList)

section
variable {w w' : World} {p : Nat} {F G : List Nat} {l k : List Int} {sq : Int} {m : List Due}
theorem FreeIs.lt (h : FreeIs p w F l sq m k) : ∀ x ∈ F, x < w.heap.size := by
  obtain ⟨v0, v1, v2, hp, h0, h1, h2, _, _, rfl⟩ := h
  intro x hx
  simp only [List.mem_cons, List.mem_append, Option.mem_toList] at hx
  rcases hx with rfl | (hx | hx) | hx
  · exact hp.inside
  · exact h0.lt x hx
  · exact h1.lt x hx
  · exact h2.lt x hx
theorem FreeIs.kept (h : FreeIs p w F l sq m k) (hk : Kept G w w') (hd : ∀ x ∈ F, x ∉ G) : FreeIs p w' F l sq m k := by
  obtain ⟨v0, v1, v2, hp, h0, h1, h2, h3, h4, rfl⟩ := h
  exact ⟨v0, v1, v2, hp.kept hk (hd p (by simp)), h0.kept hk (fun g hg => hd g (by simp [hg])), h1.kept hk (fun g hg => hd g (by simp [hg])), h2.kept hk (fun g hg => hd g (by simp [hg])), h3, h4, rfl⟩
theorem FreeIs.below (h : FreeIs p w F l sq m k) (hb : Below w.heap.size w w') : FreeIs p w' F l sq m k := h.kept (G := []) (Kept.of_below hb) (by simp)
theorem FreeIs.perm {l' k' : List Int} {m' : List Due} (h : FreeIs p w F l sq m k) (hl : l.Perm l') (hm : m.Perm m') (hk : k.Perm k') : FreeIs p w F l' sq m' k' := by
  obtain ⟨v0, v1, v2, hp, h0, h1, h2, h3, h4, rfl⟩ := h
  exact ⟨v0, v1, v2, hp, h0.perm hl, h1.perm hm, h2.perm hk, h3, h4, rfl⟩

/-- The free ones by themselves: who turns them turns nothing else. -/
theorem FreeIs.free (h : FreeIs p w F l sq m k) : ∃ (S : Spot 0) (F0 : List Nat), PileIs p S w F0 l ∧ (∀ x ∈ F0, x ∈ F) ∧
    ∀ w' F0' l', PileIs p S w' F0' l' → Goes F0 w F0' w' → ∃ F', FreeIs p w' F' l' sq m k ∧ Goes F w F' w' := by
  obtain ⟨v0, v1, v2, hp, h0, h1, h2, h3, h4, rfl⟩ := h
  refine ⟨spotF (.int .i64 sq) v1 v2, p :: v0.ownBlock.toList, pile_of (S := spotF (.int .i64 sq) v1 v2) hp h0, fun x hx => ?_, fun w' F0' l' hpi hgo => ?_⟩
  · simp at hx ⊢
    rcases hx with h | h <;> simp [h]
  · obtain ⟨u, hpu, hu, rfl⟩ := of_pile hpi
    have hne1 : ∀ g, v1.ownBlock = some g → g ∉ p :: v0.ownBlock.toList := fun g hg hin => by
      rcases List.mem_cons.1 hin with rfl | hin
      · exact h1.ne _ hg rfl
      · exact (h3 g (by simpa using hin)).1 hg
    have hne2 : ∀ g, v2.ownBlock = some g → g ∉ p :: v0.ownBlock.toList := fun g hg hin => by
      rcases List.mem_cons.1 hin with rfl | hin
      · exact h2.ne _ hg rfl
      · exact (h3 g (by simpa using hin)).2 hg
    have hub : ∀ g, u.ownBlock = some g → v0.ownBlock = some g ∨ w.heap.size ≤ g := fun g hg => by
      rcases hgo.2 g (by simp [hg]) with h | h
      · rcases List.mem_cons.1 h with rfl | h
        · exact absurd rfl (hu.ne _ hg)
        · exact .inl (by simpa using h)
      · exact .inr h
    refine ⟨_, ⟨u, v1, v2, hpu, hu, h1.kept hgo.1 hne1, h2.kept hgo.1 hne2, fun g hg => ?_, h4, rfl⟩, hgo.1.mono (fun x hx => .inl ?_), fun x hx => ?_⟩
    · rcases hub g hg with h | h
      · exact h3 g h
      · exact ⟨fun h' => by have := h1.lt g h'; omega, fun h' => by have := h2.lt g h'; omega⟩
    · simp at hx ⊢
      rcases hx with h | h <;> simp [h]
    · simp only [List.mem_cons, List.mem_append, Option.mem_toList] at hx ⊢
      rcases hx with rfl | (hx | hx) | hx
      · exact .inl (.inl rfl)
      · rcases hub x hx with h | h
        · exact .inl (.inr (.inl (.inl h)))
        · exact .inr h
      · exact .inl (.inr (.inl (.inr hx)))
      · exact .inl (.inr (.inr hx))

/-- Those that wait by themselves. -/
theorem FreeIs.waits (h : FreeIs p w F l sq m k) : ∃ (S : Spot2 1) (F0 : List Nat), LineIs p S sq w F0 m ∧ (∀ x ∈ F0, x ∈ F) ∧
    ∀ w' F0' sq' m', LineIs p S sq' w' F0' m' → Goes F0 w F0' w' → ∃ F', FreeIs p w' F' l sq' m' k ∧ Goes F w F' w' := by
  obtain ⟨v0, v1, v2, hp, h0, h1, h2, h3, h4, rfl⟩ := h
  refine ⟨spotW v0 v2, p :: v1.ownBlock.toList, line_of (S := spotW v0 v2) hp h1, fun x hx => ?_, fun w' F0' sq' m' hpi hgo => ?_⟩
  · simp at hx ⊢
    rcases hx with h | h <;> simp [h]
  · obtain ⟨u, hpu, hu, rfl⟩ := of_line hpi
    have hne0 : ∀ g, v0.ownBlock = some g → g ∉ p :: v1.ownBlock.toList := fun g hg hin => by
      rcases List.mem_cons.1 hin with rfl | hin
      · exact h0.ne _ hg rfl
      · exact (h3 g hg).1 (by simpa using hin)
    have hne2 : ∀ g, v2.ownBlock = some g → g ∉ p :: v1.ownBlock.toList := fun g hg hin => by
      rcases List.mem_cons.1 hin with rfl | hin
      · exact h2.ne _ hg rfl
      · exact h4 g (by simpa using hin) hg
    have hub : ∀ g, u.ownBlock = some g → v1.ownBlock = some g ∨ w.heap.size ≤ g := fun g hg => by
      rcases hgo.2 g (by simp [hg]) with h | h
      · rcases List.mem_cons.1 h with rfl | h
        · exact absurd rfl (hu.ne _ hg)
        · exact .inl (by simpa using h)
      · exact .inr h
    refine ⟨_, ⟨v0, u, v2, hpu, h0.kept hgo.1 hne0, hu, h2.kept hgo.1 hne2, fun g hg => ⟨fun h' => ?_, (h3 g hg).2⟩, fun g hg => ?_, rfl⟩, hgo.1.mono (fun x hx => .inl ?_), fun x hx => ?_⟩
    · rcases hub g h' with h | h
      · exact (h3 g hg).1 h
      · have := h0.lt g hg; omega
    · rcases hub g hg with h | h
      · exact h4 g h
      · exact fun h' => by have := h2.lt g h'; omega
    · simp at hx ⊢
      rcases hx with h | h <;> simp [h]
    · simp only [List.mem_cons, List.mem_append, Option.mem_toList] at hx ⊢
      rcases hx with rfl | (hx | hx) | hx
      · exact .inl (.inl rfl)
      · exact .inl (.inr (.inl (.inl hx)))
      · rcases hub x hx with h | h
        · exact .inl (.inr (.inl (.inr h)))
        · exact .inr h
      · exact .inl (.inr (.inr hx))

/-- The pins by themselves. -/
theorem FreeIs.pins (h : FreeIs p w F l sq m k) : ∃ (S : Spot 3) (F0 : List Nat), PileIs p S w F0 k ∧ (∀ x ∈ F0, x ∈ F) ∧
    ∀ w' F0' k', PileIs p S w' F0' k' → Goes F0 w F0' w' → ∃ F', FreeIs p w' F' l sq m k' ∧ Goes F w F' w' := by
  obtain ⟨v0, v1, v2, hp, h0, h1, h2, h3, h4, rfl⟩ := h
  refine ⟨spotP v0 (.int .i64 sq) v1, p :: v2.ownBlock.toList, pile_of (S := spotP v0 (.int .i64 sq) v1) hp h2, fun x hx => ?_, fun w' F0' k' hpi hgo => ?_⟩
  · simp at hx ⊢
    rcases hx with h | h <;> simp [h]
  · obtain ⟨u, hpu, hu, rfl⟩ := of_pile hpi
    have hne0 : ∀ g, v0.ownBlock = some g → g ∉ p :: v2.ownBlock.toList := fun g hg hin => by
      rcases List.mem_cons.1 hin with rfl | hin
      · exact h0.ne _ hg rfl
      · exact (h3 g hg).2 (by simpa using hin)
    have hne1 : ∀ g, v1.ownBlock = some g → g ∉ p :: v2.ownBlock.toList := fun g hg hin => by
      rcases List.mem_cons.1 hin with rfl | hin
      · exact h1.ne _ hg rfl
      · exact h4 g hg (by simpa using hin)
    have hub : ∀ g, u.ownBlock = some g → v2.ownBlock = some g ∨ w.heap.size ≤ g := fun g hg => by
      rcases hgo.2 g (by simp [hg]) with h | h
      · rcases List.mem_cons.1 h with rfl | h
        · exact absurd rfl (hu.ne _ hg)
        · exact .inl (by simpa using h)
      · exact .inr h
    refine ⟨_, ⟨v0, v1, u, hpu, h0.kept hgo.1 hne0, h1.kept hgo.1 hne1, hu, fun g hg => ⟨(h3 g hg).1, fun h' => ?_⟩, fun g hg h' => ?_, rfl⟩, hgo.1.mono (fun x hx => .inl ?_), fun x hx => ?_⟩
    · rcases hub g h' with h | h
      · exact (h3 g hg).2 h
      · have := h0.lt g hg; omega
    · rcases hub g h' with h | h
      · exact h4 g hg h
      · have := h1.lt g hg; omega
    · simp at hx ⊢
      rcases hx with h | h <;> simp [h]
    · simp only [List.mem_cons, List.mem_append, Option.mem_toList] at hx ⊢
      rcases hx with rfl | (hx | hx) | hx
      · exact .inl (.inl rfl)
      · exact .inl (.inr (.inl (.inl hx)))
      · exact .inl (.inr (.inl (.inr hx)))
      · rcases hub x hx with h | h
        · exact .inl (.inr (.inr h))
        · exact .inr h
end
end Go.Proofs.YtjimjemogbphaaaGreat

namespace Go.Proofs.YtjimjemogbphaaaGreat
open Go.RowKit Go.Sort

/-- No two have one Seq. -/
def Distinct (m : List Due) : Prop := (m.map fun d => d.2.1).Nodup
theorem Distinct.perm {m n : List Due} (h : Distinct m) (hp : m.Perm n) : Distinct n := (hp.map _).nodup_iff.1 h

theorem due_le {x y : Due} (h : ltDue y x = false) (hne : x.2.1 ≠ y.2.1) : ltDue x y = true := by
  simp only [ltDue, decide_eq_false_iff_not, decide_eq_true_eq] at *
  omega

theorem due_least (m : List Due) (h : m ≠ []) (hd : Distinct m) : ∃ x s, m.Perm (x :: s) ∧ (∀ y ∈ s, ltDue x y = true) ∧ Distinct s := by
  have hp := isort_perm (lt := ltDue) m
  have hs := isort_srt swo_due m
  cases hi : isort ltDue m with
  | nil =>
    rw [hi] at hp
    exact absurd (List.Perm.nil_eq hp).symm h
  | cons x s =>
    rw [hi] at hp hs
    have hdx : Distinct (x :: s) := hd.perm hp.symm
    have h2 := List.nodup_cons.1 (show ((x :: s).map fun d => d.2.1).Nodup from hdx)
    refine ⟨x, s, hp.symm, fun y hy => due_le ((List.pairwise_cons.1 hs).1 y hy) (fun e => ?_), h2.2⟩
    have hin : x.2.1 ∈ s.map fun d : Due => d.2.1 := by
      rw [e]
      exact List.mem_map_of_mem (f := fun d : Due => d.2.1) hy
    exact h2.1 hin

theorem int_least (m : List Int) (h : m ≠ []) : ∃ x s, m.Perm (x :: s) ∧ ∀ y ∈ s, x ≤ y := by
  have hp := List.mergeSort_perm m leInt
  have hs := srt_le m
  cases hi : m.mergeSort leInt with
  | nil =>
    rw [hi] at hp
    exact absurd (List.Perm.nil_eq hp).symm h
  | cons x s =>
    rw [hi] at hp hs
    exact ⟨x, s, hp.symm, (List.pairwise_cons.1 hs).1⟩

end Go.Proofs.YtjimjemogbphaaaGreat

namespace Go.Proofs.YtjimjemogbphaaaGreat
open Go.RowKit Go.Sort

/-- What was put: each time with its number, and its place. -/
def mkd (l : List Int) : List Due := l.zipIdx.map fun t => (t.1, ((t.2 + 1 : Nat) : Int), ((t.2 : Nat) : Int))
theorem mkd_snoc (l : List Int) (x : Int) : mkd (l ++ [x]) = mkd l ++ [(x, ((l.length + 1 : Nat) : Int), (l.length : Int))] := by
  unfold mkd
  rw [List.zipIdx_append]
  simp
theorem length_mkd (l : List Int) : (mkd l).length = l.length := by simp [mkd]
theorem mem_mkd {l : List Int} {d : Due} (h : d ∈ mkd l) : ∃ i, ∃ h : i < l.length, d = (l[i], ((i + 1 : Nat) : Int), (i : Int)) := by
  unfold mkd at h
  obtain ⟨t, ht, rfl⟩ := List.mem_map.1 h
  obtain ⟨t1, t2⟩ := t
  have h1 := List.mem_zipIdx ht
  have hlt : t2 < l.length := by omega
  have e : t1 = l[t2] := by simpa using h1.2.2
  exact ⟨t2, hlt, by simp [e]⟩
theorem distinct_mkd (l : List Int) : Distinct (mkd l) := by
  unfold Distinct mkd
  rw [List.map_map]
  have : (fun d : Due => d.2.1) ∘ (fun t : Int × Nat => ((t.1, ((t.2 + 1 : Nat) : Int), ((t.2 : Nat) : Int)) : Due)) = (fun n : Nat => ((n + 1 : Nat) : Int)) ∘ Prod.snd := by
    funext t
    rfl
  rw [this, ← List.map_map, List.zipIdx_map_snd]
  refine List.Pairwise.map _ (fun a b hab => ?_) (List.nodup_range' 1 (by omega))
  simp
  omega


theorem take_mkd (l : List Int) (k : Nat) (h : k < l.length) : mkd (l.take (k + 1)) = mkd (l.take k) ++ [(l[k], ((k + 1 : Nat) : Int), (k : Int))] := by
  rw [List.take_succ_eq_append_getElem h, mkd_snoc]
  have : (l.take k).length = k := by simp; omega
  rw [this]
end Go.Proofs.YtjimjemogbphaaaGreat

namespace Go.Proofs.YtjimjemogbphaaaGreat
open Go.RowKit Go.Sort

section
variable {p : Nat} {w : World} {F : List Nat} {l k : List Int} {sq : Int} {m : List Due}

theorem ftake_some {x : Int} {s : List Int} (h : FreeIs p w F l sq m k) (hp : l.Perm (x :: s)) (hm : ∀ y ∈ s, x ≤ y) :
    Calls Tryz.prog 10 #[.pointer (some ⟨p, 0, none⟩)] w fun e w' => e = .returned (.tuple #[.int .i64 x, .bool true]) ∧ ∃ F', FreeIs p w' F' s sq m k ∧ Goes F w F' w' := by
  obtain ⟨S, F0, h0, _, hback⟩ := h.free
  have hc := take_some h0 hp hm
  have HB := Lib.hid hback
  clear hback h0 h hp hm
  go_enter Tryz.func10, Tryz.ntmps10
  go_wp2_with fail
  refine hc.mono ?_
  rintro e w1 ⟨rfl, hpi, hk⟩
  have H := Lib.hid (And.intro hpi hk)
  clear hpi hk hc
  go_wp2_with fail
  go_ret2
  exact ⟨rfl, HB.out _ _ _ H.out.1 ⟨H.out.2, fun k hk => .inl hk⟩⟩

theorem ftake_none (h : FreeIs p w F [] sq m k) :
    Calls Tryz.prog 10 #[.pointer (some ⟨p, 0, none⟩)] w fun e w' => e = .returned (.tuple #[.int .i64 0, .bool false]) ∧ w' = w := by
  obtain ⟨S, F0, h0, _, hback⟩ := h.free
  have hc := take_none h0
  clear hback h0 h
  go_enter Tryz.func10, Tryz.ntmps10
  go_wp2_with fail
  refine hc.mono ?_
  rintro e w1 ⟨rfl, rfl⟩
  clear hc
  go_wp2_with fail
  go_ret2
  exact ⟨rfl, rfl⟩

theorem fback_any {v : Value} {xs : List Int} (h : FreeIs p w F l sq m k) (hv : ReadsO F w v (xs.map (.int .i64))) (hl : xs.length + l.length ≤ 1000000) :
    Calls Tryz.prog 14 #[.pointer (some ⟨p, 0, none⟩), v] w fun e w' => e = .returned (.tuple #[]) ∧ ∃ F', FreeIs p w' F' (xs ++ l) sq m k ∧ Goes F w F' w' := by
  obtain ⟨S, F0, h0, hsub, hback⟩ := h.free
  have hc := put_any h0 (hv.mono (fun x hx => .inl (hsub x hx))) hl
  obtain ⟨A, c, rfl, _⟩ := hv
  have HB := Lib.hid hback
  clear hback h0 h hl hsub
  generalize (xs.map (Value.int .i64)).length = n at *
  go_enter Tryz.func14, Tryz.ntmps14
  go_wp2_with fail
  refine hc.mono ?_
  rintro e w1 ⟨rfl, F', hpi, hk⟩
  have H := Lib.hid (And.intro hpi hk)
  clear hpi hk hc
  go_wp2_with fail
  go_end0
  exact ⟨rfl, HB.out _ _ _ H.out.1 H.out.2⟩

theorem fpin_any (x : Int) (h : FreeIs p w F l sq m k) (hl : k.length < 1000000) :
    Calls Tryz.prog 16 #[.pointer (some ⟨p, 0, none⟩), .int .i64 x] w fun e w' => e = .returned (.tuple #[]) ∧ ∃ F', FreeIs p w' F' l sq m (x :: k) ∧ Goes F w F' w' := by
  have hlt := h.lt
  have hb0 : Below w.heap.size w (w.alloc (.cells #[.int .i64 x] 3)) := (Below.refl _ _).alloc (Nat.le_refl _) _
  have h1 := h.below hb0
  obtain ⟨S, F0, h0, hsub, hback⟩ := h1.pins
  have hro : ReadsO F0 (w.alloc (.cells #[.int .i64 x] 3)) (.slice (some ⟨w.heap.size, 0, none⟩) 1 1) ([x].map (.int .i64)) :=
    ⟨some ⟨w.heap.size, 0, none⟩, 1, rfl, fun _ => ⟨w.heap.size, 0, rfl, by simp, fun hF => by have := hlt _ (hsub _ hF); omega, fun j u hu => by
      rw [Nat.zero_add, (Has.made w 3 #[.int .i64 x]).cell j]
      simpa using hu⟩⟩
  have hc := put_any h0 hro (by simp; omega)
  have HB := Lib.hid (And.intro hback hb0)
  clear hback h0 h hl hsub hb0 h1 hro hlt
  go_enter Tryz.func16, Tryz.ntmps16
  go_wp2_with fail
  refine hc.mono ?_
  rintro e w1 ⟨rfl, F', hpi, hk⟩
  have H := Lib.hid (And.intro hpi hk)
  clear hpi hk hc
  go_wp2_with fail
  go_end0
  obtain ⟨F2, hf, hg⟩ := HB.out.1 _ _ _ H.out.1 H.out.2
  exact ⟨rfl, F2, hf, Goes.trans ⟨Kept.of_below HB.out.2, fun k hk => .inl hk⟩ hg⟩

theorem funpin_any (x : Int) (h : FreeIs p w F l sq m k) :
    Calls Tryz.prog 18 #[.pointer (some ⟨p, 0, none⟩), .int .i64 x] w fun e w' => e = .returned (.bool (decide (x ∈ k))) ∧ ∃ F', FreeIs p w' F' l sq m (k.erase x) ∧ Goes F w F' w' := by
  obtain ⟨S, F0, h0, hsub, hback⟩ := h.pins
  have hc := drop_any x h0
  have HB := Lib.hid hback
  generalize decide (x ∈ k) = b at *
  clear hback h0 h hsub
  go_enter Tryz.func18, Tryz.ntmps18
  go_wp2_with fail
  refine hc.mono ?_
  rintro e w1 ⟨rfl, hpi, hk⟩
  have H := Lib.hid (And.intro hpi hk)
  clear hpi hk hc
  go_wp2_with fail
  go_ret
  exact ⟨rfl, HB.out _ _ _ H.out.1 ⟨H.out.2, fun k hk => .inl hk⟩⟩

theorem flen_any (h : FreeIs p w F l sq m k) :
    Calls Tryz.prog 27 #[.pointer (some ⟨p, 0, none⟩)] w fun e w' => e = .returned (.int .i64 (l.length : Nat)) ∧ w' = w := by
  obtain ⟨S, F0, h0, _, _⟩ := h.free
  have hc := len_any h0
  clear h0 h
  generalize l.length = n at *
  go_enter Tryz.func27, Tryz.ntmps27
  go_wp2_with fail
  refine hc.mono ?_
  rintro e w1 ⟨rfl, rfl⟩
  go_wp2_with fail
  go_ret
  exact ⟨rfl, rfl⟩

theorem fwaiting_any (h : FreeIs p w F l sq m k) :
    Calls Tryz.prog 28 #[.pointer (some ⟨p, 0, none⟩)] w fun e w' => e = .returned (.int .i64 (m.length : Nat)) ∧ w' = w := by
  obtain ⟨S, F0, h0, _, _⟩ := h.waits
  have hc := llen_any h0
  clear h0 h
  generalize m.length = n at *
  go_enter Tryz.func28, Tryz.ntmps28
  go_wp2_with fail
  refine hc.mono ?_
  rintro e w1 ⟨rfl, rfl⟩
  go_wp2_with fail
  go_ret
  exact ⟨rfl, rfl⟩

theorem flist_any (h : FreeIs p w F l sq m k) :
    Calls Tryz.prog 22 #[.pointer (some ⟨p, 0, none⟩)] w fun e w' => ∃ v', e = .returned v' ∧ w'.ownsRow w.heap.size 3 1 v' l.length ((l.mergeSort leInt).map (.int .i64)) ∧ Below w.heap.size w w' := by
  obtain ⟨S, F0, h0, _, _⟩ := h.free
  have hc := list_any h0
  clear h0 h
  generalize l.length = n at *
  go_enter Tryz.func22, Tryz.ntmps22
  go_wp2_with fail
  refine hc.mono ?_
  rintro e w1 ⟨v', rfl, ho, hb⟩
  have H := Lib.hid (And.intro ho hb)
  obtain ⟨A', c', rfl⟩ := row_form ho
  clear ho hb hc
  go_wp2_with fail
  go_ret
  exact ⟨_, rfl, H.out.1, H.out.2⟩

theorem fnew_any {v : Value} {l : List Int} (h : ReadsO [] w v (l.map (.int .i64))) (hl : l.length ≤ 1000000) :
    Calls Tryz.prog 7 #[v] w fun e w' => e = .returned (.pointer (some ⟨w.heap.size, 0, none⟩)) ∧ (∃ F, FreeIs w.heap.size w' F l 0 [] [] ∧ ∀ x ∈ F, w.heap.size ≤ x) ∧ Below w.heap.size w w' := by
  have hb0 : Below w.heap.size w (w.alloc (.cells #[.slice none 0 0, .int .i64 0, .slice none 0 0, .slice none 0 0] 47)) := (Below.refl _ _).alloc (Nat.le_refl _) _
  have h0 : FreeIs w.heap.size (w.alloc (.cells #[.slice none 0 0, .int .i64 0, .slice none 0 0, .slice none 0 0] 47)) [w.heap.size] [] 0 [] [] :=
    ⟨_, _, _, Has.made w _ _, NRow.nil _ _, DRow.nil _ _, NRow.nil _ _, by simp [Value.ownBlock], by simp [Value.ownBlock], rfl⟩
  have hro : ReadsO [w.heap.size] (w.alloc (.cells #[.slice none 0 0, .int .i64 0, .slice none 0 0, .slice none 0 0] 47)) v (l.map (.int .i64)) := by
    obtain ⟨A, c, rfl, h⟩ := h
    refine ⟨A, c, rfl, fun hn => ?_⟩
    obtain ⟨b, off, rfl, hlt, _, hc⟩ := h hn
    exact ⟨b, off, rfl, Nat.lt_of_lt_of_le hlt hb0.size, by simp; omega, fun j u hu => (hb0.cell (p := ⟨b, off + j, none⟩) hlt).trans (hc j u hu)⟩
  have hc := fback_any h0 hro (by simpa using hl)
  obtain ⟨A, c, rfl, _⟩ := h
  have HB := Lib.hid hb0
  clear h0 hro hb0 hl
  rw [List.append_nil] at hc
  rw [List.length_map] at *
  generalize l.length = n at *
  go_enter Tryz.func7, Tryz.ntmps7
  go_wp2_with fail
  refine hc.mono ?_
  rintro e w1 ⟨rfl, F', hf, hg⟩
  have H := Lib.hid (And.intro hf hg)
  clear hf hg hc
  go_wp2_with fail
  go_ret
  obtain ⟨hf, hg⟩ := H.out
  refine ⟨rfl, ⟨F', hf, fun x hx => (hg.2 x hx).elim (fun h => by simp at h; omega) (fun h => by have := HB.out.size; omega)⟩, HB.out.trans (hg.1.below (by have := HB.out.size; omega) (by simp))⟩
end
end Go.Proofs.YtjimjemogbphaaaGreat
