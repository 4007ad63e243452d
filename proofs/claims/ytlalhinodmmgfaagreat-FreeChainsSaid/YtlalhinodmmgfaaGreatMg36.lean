/-
  Free pages in memory: two piles and a line in one block, each to be turned by itself.
-/
import Derived.Test.YtlalhinodmmgfaaGreatMg34
import Derived.Test.YtlalhinodmmgfaaGreatMg35
namespace Go.Proofs.YtlalhinodmmgfaaGreat
open Go.RowKit Go.Sort

def spotF (s v1 v2 : Value) : Spot 0 := ⟨107, fun v => #[v, s, v1, v2], fun _ => rfl, fun _ _ => rfl⟩
def spotW (v0 v2 : Value) : Spot2 1 := ⟨107, fun s v => #[v0, s, v, v2], fun _ _ => rfl, fun _ _ => rfl, fun _ _ _ => rfl, fun _ _ _ => rfl⟩
def spotP (v0 s v1 : Value) : Spot 3 := ⟨107, fun v => #[v0, s, v1, v], fun _ => rfl, fun _ _ => rfl⟩

/-- A row of numbers that is a heap of what stands in l. -/
def NRow (w : World) (p : Nat) (v : Value) (l : List Int) : Prop :=
  ∃ a : Array Int, w.ownsRow 0 3 1 v a.size (ints a) ∧ (∀ g, v.ownBlock = some g → g ≠ p) ∧ a.size ≤ 1000000 ∧ HeapFrom ltInt a a.size 0 ∧ a.toList.Perm l
/-- A row of what is due that is a heap of what stands in l. -/
def DRow (w : World) (p : Nat) (v : Value) (l : List Due) : Prop :=
  ∃ a : Array Due, w.ownsRow 0 111 3 v a.size (dlist a.toList) ∧ (∀ g, v.ownBlock = some g → g ≠ p) ∧ a.size ≤ 1000000 ∧ HeapFrom ltDue a a.size 0 ∧ a.toList.Perm l

section
variable {w w' : World} {p o : Nat} {v : Value} {F G : List Nat}
theorem NRow.kept {l : List Int} (h : NRow w p v l) (hk : Kept G w w') (hn : ∀ g, v.ownBlock = some g → g ∉ G) : NRow w' p v l := by
  obtain ⟨a, h1, h2, h3, h4, h5⟩ := h
  exact ⟨a, row_kept h1 hk hn, h2, h3, h4, h5⟩
theorem DRow.kept {l : List Due} (h : DRow w p v l) (hk : Kept G w w') (hn : ∀ g, v.ownBlock = some g → g ∉ G) : DRow w' p v l := by
  obtain ⟨a, h1, h2, h3, h4, h5⟩ := h
  exact ⟨a, row_kept h1 hk hn, h2, h3, h4, h5⟩
theorem NRow.lt {l : List Int} (h : NRow w p v l) (g : Nat) (hg : v.ownBlock = some g) : g < w.heap.size := by
  obtain ⟨a, h1, _⟩ := h
  exact (h1.lt g hg).2
theorem DRow.lt {l : List Due} (h : DRow w p v l) (g : Nat) (hg : v.ownBlock = some g) : g < w.heap.size := by
  obtain ⟨a, h1, _⟩ := h
  exact (h1.lt g hg).2
theorem NRow.ne {l : List Int} (h : NRow w p v l) (g : Nat) (hg : v.ownBlock = some g) : g ≠ p := by
  obtain ⟨a, _, h2, _⟩ := h
  exact h2 g hg
theorem DRow.ne {l : List Due} (h : DRow w p v l) (g : Nat) (hg : v.ownBlock = some g) : g ≠ p := by
  obtain ⟨a, _, h2, _⟩ := h
  exact h2 g hg
theorem NRow.nil (w : World) (p : Nat) : NRow w p (.slice none 0 0) [] := ⟨#[], World.ownsRow_nil _ _ _ _, by simp [Value.ownBlock], by simp, fun k _ hk => absurd hk (by simp), List.Perm.refl _⟩
theorem DRow.nil (w : World) (p : Nat) : DRow w p (.slice none 0 0) [] := ⟨#[], World.ownsRow_nil _ _ _ _, by simp [Value.ownBlock], by simp, fun k _ hk => absurd hk (by simp), List.Perm.refl _⟩
theorem NRow.perm {l m : List Int} (h : NRow w p v l) (hp : l.Perm m) : NRow w p v m := by
  obtain ⟨a, h1, h2, h3, h4, h5⟩ := h
  exact ⟨a, h1, h2, h3, h4, h5.trans hp⟩
theorem DRow.perm {l m : List Due} (h : DRow w p v l) (hp : l.Perm m) : DRow w p v m := by
  obtain ⟨a, h1, h2, h3, h4, h5⟩ := h
  exact ⟨a, h1, h2, h3, h4, h5.trans hp⟩

theorem pile_of {S : Spot o} {l : List Int} (hp : Has w p S.t (S.K v)) (h : NRow w p v l) : PileIs p S w (p :: v.ownBlock.toList) l := by
  obtain ⟨a, h1, h2, h3, h4, h5⟩ := h
  exact ⟨a, ⟨v, hp, h1, h2, rfl, h3⟩, h4, h5⟩
theorem of_pile {S : Spot o} {l : List Int} (h : PileIs p S w F l) : ∃ v, Has w p S.t (S.K v) ∧ NRow w p v l ∧ F = p :: v.ownBlock.toList := by
  obtain ⟨a, ⟨v, hp, h1, h2, rfl, h3⟩, h4, h5⟩ := h
  exact ⟨v, hp, ⟨a, h1, h2, h3, h4, h5⟩, rfl⟩
theorem line_of {S : Spot2 o} {sq : Int} {l : List Due} (hp : Has w p S.t (S.K (.int .i64 sq) v)) (h : DRow w p v l) : LineIs p S sq w (p :: v.ownBlock.toList) l := by
  obtain ⟨a, h1, h2, h3, h4, h5⟩ := h
  exact ⟨a, ⟨v, hp, h1, h2, rfl, h3⟩, h4, h5⟩
theorem of_line {S : Spot2 o} {sq : Int} {l : List Due} (h : LineIs p S sq w F l) : ∃ v, Has w p S.t (S.K (.int .i64 sq) v) ∧ DRow w p v l ∧ F = p :: v.ownBlock.toList := by
  obtain ⟨a, ⟨v, hp, h1, h2, rfl, h3⟩, h4, h5⟩ := h
  exact ⟨v, hp, ⟨a, h1, h2, h3, h4, h5⟩, rfl⟩
end

/-- Free pages at p: l are free, m wait (the last Seq is sq), k are pinned. -/
def FreeIs (p : Nat) (w : World) (F : List Nat) (l : List Int) (sq : Int) (m : List Due) (k : List Int) : Prop :=
  ∃ v0 v1 v2, Has w p 107 #[v0, .int .i64 sq, v1, v2] ∧ NRow w p v0 l ∧ DRow w p v1 m ∧ NRow w p v2 k ∧
    (∀ g, v0.ownBlock = some g → v1.ownBlock ≠ some g ∧ v2.ownBlock ≠ some g) ∧ (∀ g, v1.ownBlock = some g → v2.ownBlock ≠ some g) ∧
    F = p :: (v0.ownBlock.toList ++ v1.ownBlock.toList ++ v2.ownBlock.toList)

section
variable {w w' : World} {p : Nat} {F G : List Nat} {l k : List Int} {sq : Int} {m : List Due}
theorem FreeIs.lt (h : FreeIs p w F l sq m k) : ∀ x ∈ F, x < w.heap.size := by
  obtain ⟨v0, v1, v2, hp, h0, h1, h2, _, _, rfl⟩ := h
  intro x hx
  simp only [List.mem_cons, List.mem_append, Option.mem_toList] at hx
  rcases hx with rfl | (hx | hx) | hx
  · exact hp.inside
  · exact h0.lt x hx
  · exact h1.lt x hx
  · exact h2.lt x hx
theorem FreeIs.kept (h : FreeIs p w F l sq m k) (hk : Kept G w w') (hd : ∀ x ∈ F, x ∉ G) : FreeIs p w' F l sq m k := by
  obtain ⟨v0, v1, v2, hp, h0, h1, h2, h3, h4, rfl⟩ := h
  exact ⟨v0, v1, v2, hp.kept hk (hd p (by simp)), h0.kept hk (fun g hg => hd g (by simp [hg])), h1.kept hk (fun g hg => hd g (by simp [hg])), h2.kept hk (fun g hg => hd g (by simp [hg])), h3, h4, rfl⟩
theorem FreeIs.below (h : FreeIs p w F l sq m k) (hb : Below w.heap.size w w') : FreeIs p w' F l sq m k := h.kept (G := []) (Kept.of_below hb) (by simp)
theorem FreeIs.perm {l' k' : List Int} {m' : List Due} (h : FreeIs p w F l sq m k) (hl : l.Perm l') (hm : m.Perm m') (hk : k.Perm k') : FreeIs p w F l' sq m' k' := by
  obtain ⟨v0, v1, v2, hp, h0, h1, h2, h3, h4, rfl⟩ := h
  exact ⟨v0, v1, v2, hp, h0.perm hl, h1.perm hm, h2.perm hk, h3, h4, rfl⟩

/-- The free ones by themselves: who turns them turns nothing else. -/
theorem FreeIs.free (h : FreeIs p w F l sq m k) : ∃ (S : Spot 0) (F0 : List Nat), PileIs p S w F0 l ∧ (∀ x ∈ F0, x ∈ F) ∧
    ∀ w' F0' l', PileIs p S w' F0' l' → Goes F0 w F0' w' → ∃ F', FreeIs p w' F' l' sq m k ∧ Goes F w F' w' := by
  obtain ⟨v0, v1, v2, hp, h0, h1, h2, h3, h4, rfl⟩ := h
  refine ⟨spotF (.int .i64 sq) v1 v2, p :: v0.ownBlock.toList, pile_of (S := spotF (.int .i64 sq) v1 v2) hp h0, fun x hx => ?_, fun w' F0' l' hpi hgo => ?_⟩
  · simp at hx ⊢
    rcases hx with h | h <;> simp [h]
  · obtain ⟨u, hpu, hu, rfl⟩ := of_pile hpi
    have hne1 : ∀ g, v1.ownBlock = some g → g ∉ p :: v0.ownBlock.toList := fun g hg hin => by
      rcases List.mem_cons.1 hin with rfl | hin
      · exact h1.ne _ hg rfl
      · exact (h3 g (by simpa using hin)).1 hg
    have hne2 : ∀ g, v2.ownBlock = some g → g ∉ p :: v0.ownBlock.toList := fun g hg hin => by
      rcases List.mem_cons.1 hin with rfl | hin
      · exact h2.ne _ hg rfl
      · exact (h3 g (by simpa using hin)).2 hg
    have hub : ∀ g, u.ownBlock = some g → v0.ownBlock = some g ∨ w.heap.size ≤ g := fun g hg => by
      rcases hgo.2 g (by simp [hg]) with h | h
      · rcases List.mem_cons.1 h with rfl | h
        · exact absurd rfl (hu.ne _ hg)
        · exact .inl (by simpa using h)
      · exact .inr h
    refine ⟨_, ⟨u, v1, v2, hpu, hu, h1.kept hgo.1 hne1, h2.kept hgo.1 hne2, fun g hg => ?_, h4, rfl⟩, hgo.1.mono (fun x hx => .inl ?_), fun x hx => ?_⟩
    · rcases hub g hg with h | h
      · exact h3 g h
      · exact ⟨fun h' => by have := h1.lt g h'; omega, fun h' => by have := h2.lt g h'; omega⟩
    · simp at hx ⊢
      rcases hx with h | h <;> simp [h]
    · simp only [List.mem_cons, List.mem_append, Option.mem_toList] at hx ⊢
      rcases hx with rfl | (hx | hx) | hx
      · exact .inl (.inl rfl)
      · rcases hub x hx with h | h
        · exact .inl (.inr (.inl (.inl h)))
        · exact .inr h
      · exact .inl (.inr (.inl (.inr hx)))
      · exact .inl (.inr (.inr hx))

/-- Those that wait by themselves. -/
theorem FreeIs.waits (h : FreeIs p w F l sq m k) : ∃ (S : Spot2 1) (F0 : List Nat), LineIs p S sq w F0 m ∧ (∀ x ∈ F0, x ∈ F) ∧
    ∀ w' F0' sq' m', LineIs p S sq' w' F0' m' → Goes F0 w F0' w' → ∃ F', FreeIs p w' F' l sq' m' k ∧ Goes F w F' w' := by
  obtain ⟨v0, v1, v2, hp, h0, h1, h2, h3, h4, rfl⟩ := h
  refine ⟨spotW v0 v2, p :: v1.ownBlock.toList, line_of (S := spotW v0 v2) hp h1, fun x hx => ?_, fun w' F0' sq' m' hpi hgo => ?_⟩
  · simp at hx ⊢
    rcases hx with h | h <;> simp [h]
  · obtain ⟨u, hpu, hu, rfl⟩ := of_line hpi
    have hne0 : ∀ g, v0.ownBlock = some g → g ∉ p :: v1.ownBlock.toList := fun g hg hin => by
      rcases List.mem_cons.1 hin with rfl | hin
      · exact h0.ne _ hg rfl
      · exact (h3 g hg).1 (by simpa using hin)
    have hne2 : ∀ g, v2.ownBlock = some g → g ∉ p :: v1.ownBlock.toList := fun g hg hin => by
      rcases List.mem_cons.1 hin with rfl | hin
      · exact h2.ne _ hg rfl
      · exact h4 g (by simpa using hin) hg
    have hub : ∀ g, u.ownBlock = some g → v1.ownBlock = some g ∨ w.heap.size ≤ g := fun g hg => by
      rcases hgo.2 g (by simp [hg]) with h | h
      · rcases List.mem_cons.1 h with rfl | h
        · exact absurd rfl (hu.ne _ hg)
        · exact .inl (by simpa using h)
      · exact .inr h
    refine ⟨_, ⟨v0, u, v2, hpu, h0.kept hgo.1 hne0, hu, h2.kept hgo.1 hne2, fun g hg => ⟨fun h' => ?_, (h3 g hg).2⟩, fun g hg => ?_, rfl⟩, hgo.1.mono (fun x hx => .inl ?_), fun x hx => ?_⟩
    · rcases hub g h' with h | h
      · exact (h3 g hg).1 h
      · have := h0.lt g hg; omega
    · rcases hub g hg with h | h
      · exact h4 g h
      · exact fun h' => by have := h2.lt g h'; omega
    · simp at hx ⊢
      rcases hx with h | h <;> simp [h]
    · simp only [List.mem_cons, List.mem_append, Option.mem_toList] at hx ⊢
      rcases hx with rfl | (hx | hx) | hx
      · exact .inl (.inl rfl)
      · exact .inl (.inr (.inl (.inl hx)))
      · rcases hub x hx with h | h
        · exact .inl (.inr (.inl (.inr h)))
        · exact .inr h
      · exact .inl (.inr (.inr hx))

/-- The pins by themselves. -/
theorem FreeIs.pins (h : FreeIs p w F l sq m k) : ∃ (S : Spot 3) (F0 : List Nat), PileIs p S w F0 k ∧ (∀ x ∈ F0, x ∈ F) ∧
    ∀ w' F0' k', PileIs p S w' F0' k' → Goes F0 w F0' w' → ∃ F', FreeIs p w' F' l sq m k' ∧ Goes F w F' w' := by
  obtain ⟨v0, v1, v2, hp, h0, h1, h2, h3, h4, rfl⟩ := h
  refine ⟨spotP v0 (.int .i64 sq) v1, p :: v2.ownBlock.toList, pile_of (S := spotP v0 (.int .i64 sq) v1) hp h2, fun x hx => ?_, fun w' F0' k' hpi hgo => ?_⟩
  · simp at hx ⊢
    rcases hx with h | h <;> simp [h]
  · obtain ⟨u, hpu, hu, rfl⟩ := of_pile hpi
    have hne0 : ∀ g, v0.ownBlock = some g → g ∉ p :: v2.ownBlock.toList := fun g hg hin => by
      rcases List.mem_cons.1 hin with rfl | hin
      · exact h0.ne _ hg rfl
      · exact (h3 g hg).2 (by simpa using hin)
    have hne1 : ∀ g, v1.ownBlock = some g → g ∉ p :: v2.ownBlock.toList := fun g hg hin => by
      rcases List.mem_cons.1 hin with rfl | hin
      · exact h1.ne _ hg rfl
      · exact h4 g hg (by simpa using hin)
    have hub : ∀ g, u.ownBlock = some g → v2.ownBlock = some g ∨ w.heap.size ≤ g := fun g hg => by
      rcases hgo.2 g (by simp [hg]) with h | h
      · rcases List.mem_cons.1 h with rfl | h
        · exact absurd rfl (hu.ne _ hg)
        · exact .inl (by simpa using h)
      · exact .inr h
    refine ⟨_, ⟨v0, v1, u, hpu, h0.kept hgo.1 hne0, h1.kept hgo.1 hne1, hu, fun g hg => ⟨(h3 g hg).1, fun h' => ?_⟩, fun g hg h' => ?_, rfl⟩, hgo.1.mono (fun x hx => .inl ?_), fun x hx => ?_⟩
    · rcases hub g h' with h | h
      · exact (h3 g hg).2 h
      · have := h0.lt g hg; omega
    · rcases hub g h' with h | h
      · exact h4 g hg h
      · have := h1.lt g hg; omega
    · simp at hx ⊢
      rcases hx with h | h <;> simp [h]
    · simp only [List.mem_cons, List.mem_append, Option.mem_toList] at hx ⊢
      rcases hx with rfl | (hx | hx) | hx
      · exact .inl (.inl rfl)
      · exact .inl (.inr (.inl (.inl hx)))
      · exact .inl (.inr (.inl (.inr hx)))
      · rcases hub x hx with h | h
        · exact .inl (.inr (.inr h))
        · exact .inr h
end
end Go.Proofs.YtlalhinodmmgfaaGreat
