/-
  The calls of a line. Free pages in memory: two piles and a line in one block, each to be turned by itself. The least one of a list of distinct Seqs, and of numbers. What is put into a line, one behind the other.
-/
import Derived.Test.YtmcfldcpmjdfbaaGreatDoorMg6
import Derived.Test.YtmcfldcpmjdfbaaGreatDoorMg4
namespace Go.Proofs.YtmcfldcpmjdfbaaGreatDoor
open Go.RowKit Go.Sort

/-- A line at p, whose last Seq is sq, that holds what stands in l. -/
def LineIs (p : Nat) {o : Nat} (S : Spot2 o) (sq : Int) (w : World) (F : List Nat) (l : List Due) : Prop := HeapOf ltDue (DueAt p S sq) F l w

theorem LineIs.kept {p o : Nat} {S : Spot2 o} {sq : Int} {w w' : World} {F G : List Nat} {l : List Due} (h : LineIs p S sq w F l) (hk : Kept G w w') (hd : ∀ k ∈ F, k ∉ G) : LineIs p S sq w' F l := by
  obtain ⟨a, ha, h1, h2⟩ := h
  exact ⟨a, ha.kept hk hd, h1, h2⟩
theorem LineIs.below {p o : Nat} {S : Spot2 o} {sq : Int} {w w' : World} {F : List Nat} {l : List Due} (h : LineIs p S sq w F l) (hb : Below w.heap.size w w') : LineIs p S sq w' F l := h.kept (G := []) (Kept.of_below hb) (by simp)
theorem LineIs.lt {p o : Nat} {S : Spot2 o} {sq : Int} {w : World} {F : List Nat} {l : List Due} (h : LineIs p S sq w F l) : ∀ k ∈ F, k < w.heap.size := by
  obtain ⟨a, ha, _⟩ := h
  exact ha.lt
theorem LineIs.perm {p o : Nat} {S : Spot2 o} {sq : Int} {w : World} {F : List Nat} {l m : List Due} (h : LineIs p S sq w F l) (hp : l.Perm m) : LineIs p S sq w F m := by
  obtain ⟨a, ha, h1, h2⟩ := h
  exact ⟨a, ha, h1, h2.trans hp⟩
theorem LineIs.few {p o : Nat} {S : Spot2 o} {sq : Int} {w : World} {F : List Nat} {l : List Due} (h : LineIs p S sq w F l) : l.length ≤ 1000000 := by
  obtain ⟨a, ⟨_, _, _, _, _, hs⟩, h1, h2⟩ := h
  have := h2.length_eq
  simp at this
  omega

/-- x is the least of x :: s. -/
theorem line_first {a : Array Due} {x : Due} {s : List Due} (hh : HeapFrom ltDue a a.size 0) (hp : a.toList.Perm (x :: s)) (hm : ∀ y ∈ s, ltDue x y = true) : 0 < a.size ∧ a[0]! = x := by
  have hl : a.size = s.length + 1 := by simpa using hp.length_eq
  have h0 : 0 < a.size := by omega
  refine ⟨h0, ?_⟩
  have hin : a[0]! ∈ a.toList := by
    have : a[0]! = a[0] := by simp [h0]
    rw [this]; simp
  rcases List.mem_cons.1 (hp.mem_iff.1 hin) with h | h
  · exact h
  · have h1 := hm _ h
    have hx : x ∈ a.toList := hp.mem_iff.2 (by simp)
    obtain ⟨k, hk, hk2⟩ := List.mem_iff_getElem.1 hx
    have hk' : k < a.size := by simpa using hk
    have e : a.toList[k] = a[k]! := by simp [hk']
    have h2 := hh.least swo_due k hk'
    rw [← e, hk2, h1] at h2
    cases h2

/-- A line that lies alone. -/
def plainSpot2 : Spot2 0 := ⟨40, fun s v => #[s, v], fun _ _ => rfl, fun _ _ => rfl, fun _ _ _ => rfl, fun _ _ _ => rfl⟩

theorem DueAt.count {p o : Nat} {S : Spot2 o} {sq : Int} {w : World} {F : List Nat} {a : Array Due} (h : DueAt p S sq w F a) (z : Int) : DueAt p S z (w.setCell ⟨p, o, none⟩ (.int .i64 z)) F a ∧ Kept F w (w.setCell ⟨p, o, none⟩ (.int .i64 z)) ∧ w.cell? ⟨p, o, none⟩ = some (.int .i64 sq) ∧ w.frozen? ⟨p, o, none⟩ = false := by
  obtain ⟨v, hp, hr, hne, rfl, hs⟩ := h
  refine ⟨⟨v, hp.respot0 (.int .i64 z), hr.kept (grownBy_setCell w ⟨p, o, none⟩ _) ?_, hne, rfl, hs⟩, (Kept.refl _ _).setCell (p := ⟨p, o, none⟩) (by simp) _, hp.spot0, hp.free o⟩
  rcases hv : v.ownBlock with _ | g
  · exact .inl rfl
  · exact .inr (by simpa using hne g hv)

set_option maxRecDepth 100000 in
set_option maxHeartbeats 1000000 in
theorem lput_any {p o : Nat} {S : Spot2 o} {sq : Nat} {w : World} {F : List Nat} {l : List Due} (t x : Int) (h : LineIs p S sq w F l) (hl : l.length < 1000000) (hsq : sq ≤ 1000000) :
    Calls Tryz.prog 73 #[.pointer (some ⟨p, o, none⟩), .int .i64 t, .int .i64 x] w fun e w' => e = .returned (.int .i64 ((sq + 1 : Nat) : Int)) ∧ ∃ F', LineIs p S ((sq + 1 : Nat) : Int) w' F' ((t, ((sq + 1 : Nat) : Int), x) :: l) ∧ Goes F w F' w' := by
  obtain ⟨a, ha, hh, hpm⟩ := h
  obtain ⟨z, hz⟩ : ∃ z : Nat, z = sq + 1 := ⟨_, rfl⟩
  obtain ⟨ha1, hk1, hc, hf⟩ := ha.count z
  have hsz : a.size < 1000000 := by have := hpm.length_eq; simp at this; omega
  have hs : (w.setCell ⟨p, o, none⟩ (.int .i64 z)).drew.cell? ⟨p, o, none⟩ = some (.int .i64 z) := (ha1.count 0).2.2.1
  have hpu := hpush_at (dueHO p S z) (t, (z : Int), x) (ha1.kept (G := []) (Kept.refl _ _).drew (by simp)) hh hsz
  rw [← hz]
  have hz1 : (sq : Int) + 1 = z := by omega
  have hz2 : (z : Int) ≤ 1000001 := by omega
  have hmn : min (z : Int) 4611686018427387904 = z := by omega
  have HP := Lib.hid (And.intro hk1 hpm)
  clear ha ha1 hk1 hpm hh hsz hz hl
  have HPU := Lib.hid hpu
  clear hpu
  go_enter Tryz.func73, Tryz.ntmps73
  go_wp2_with fail
  generalize w.setCell ⟨p, o, none⟩ (.int .i64 z) = W at *
  refine wp_region_tills (fun w' => w'.cell? ⟨p, o, none⟩ = some (.int .i64 z)) 12 (by kernel_rfl) ?_
  refine till_takeAt 18 (i := 0) (v := .pointer (some ⟨p, o, none⟩)) rfl rfl (by kernel_rfl) (by kernel_rfl) (by kernel_rfl) (by kernel_rfl) (by kernel_rfl) (fun _ _ _ h => h) (Or.inl ⟨by rfl, fun w' hw' => by obtain q1 := hw'; go_simp⟩) hs ?_
  simp only [List.setIfInBounds_toArray, List.set_cons_zero, List.set_cons_succ]
  refine till_takeAt 19 (i := 1) (v := .pointer (some ⟨p, o, none⟩)) rfl rfl (by kernel_rfl) (by kernel_rfl) (by kernel_rfl) (by kernel_rfl) (by kernel_rfl) (fun _ _ _ h => h) (Or.inl ⟨by rfl, fun w' hw' => by obtain q1 := hw'; go_simp⟩) hs ?_
  simp only [List.setIfInBounds_toArray, List.set_cons_zero, List.set_cons_succ]
  refine till_takeAt 20 (i := 2) (v := .pointer (some ⟨p, o + 1, none⟩)) rfl rfl (by kernel_rfl) (by kernel_rfl) (by kernel_rfl) (by kernel_rfl) (by kernel_rfl) (fun _ _ _ h => h) (Or.inl ⟨by rfl, fun w' hw' => by obtain q1 := hw'; go_simp⟩) hs ?_
  simp only [List.setIfInBounds_toArray, List.set_cons_zero, List.set_cons_succ]
  refine till_takeAt 21 (i := 3) (v := .iface 155 (.pointer (some ⟨p, o + 1, none⟩))) rfl rfl (by kernel_rfl) (by kernel_rfl) (by kernel_rfl) (by kernel_rfl) (by kernel_rfl) (fun _ _ _ h => h) (Or.inl ⟨by rfl, fun w' hw' => by obtain q1 := hw'; go_simp⟩) hs ?_
  simp only [List.setIfInBounds_toArray, List.set_cons_zero, List.set_cons_succ]
  refine till_takeAt 22 (i := 4) (v := .int .i64 t) rfl rfl (by kernel_rfl) (by kernel_rfl) (by kernel_rfl) (by kernel_rfl) (by kernel_rfl) (fun _ _ _ h => h) (Or.inl ⟨by rfl, fun w' hw' => by obtain q1 := hw'; go_simp⟩) hs ?_
  simp only [List.setIfInBounds_toArray, List.set_cons_zero, List.set_cons_succ]
  refine till_takeAt 23 (i := 5) (v := .pointer (some ⟨p, o, none⟩)) rfl rfl (by kernel_rfl) (by kernel_rfl) (by kernel_rfl) (by kernel_rfl) (by kernel_rfl) (fun _ _ _ h => h) (Or.inl ⟨by rfl, fun w' hw' => by obtain q1 := hw'; go_simp⟩) hs ?_
  simp only [List.setIfInBounds_toArray, List.set_cons_zero, List.set_cons_succ]
  refine till_takeAt 24 (i := 6) (v := .pointer (some ⟨p, o, none⟩)) rfl rfl (by kernel_rfl) (by kernel_rfl) (by kernel_rfl) (by kernel_rfl) (by kernel_rfl) (fun _ _ _ h => h) (Or.inl ⟨by rfl, fun w' hw' => by obtain q1 := hw'; go_simp⟩) hs ?_
  simp only [List.setIfInBounds_toArray, List.set_cons_zero, List.set_cons_succ]
  refine till_takeAt 25 (i := 7) (v := .pointer (some ⟨p, o, none⟩)) rfl rfl (by kernel_rfl) (by kernel_rfl) (by kernel_rfl) (by kernel_rfl) (by kernel_rfl) (fun _ _ _ h => h) (Or.inl ⟨by rfl, fun w' hw' => by obtain q1 := hw'; go_simp⟩) hs ?_
  simp only [List.setIfInBounds_toArray, List.set_cons_zero, List.set_cons_succ]
  refine till_takeAt 26 (i := 8) (v := .int .i64 z) rfl rfl (by kernel_rfl) (by kernel_rfl) (by kernel_rfl) (by kernel_rfl) (by kernel_rfl) (fun _ _ _ h => h) (Or.inl ⟨by rfl, fun w' hw' => by obtain q1 := hw'; go_simp⟩) hs ?_
  simp only [List.setIfInBounds_toArray, List.set_cons_zero, List.set_cons_succ]
  refine till_takeAt 27 (i := 9) (v := .int .i64 x) rfl rfl (by kernel_rfl) (by kernel_rfl) (by kernel_rfl) (by kernel_rfl) (by kernel_rfl) (fun _ _ _ h => h) (Or.inl ⟨by rfl, fun w' hw' => by obtain q1 := hw'; go_simp⟩) hs ?_
  simp only [List.setIfInBounds_toArray, List.set_cons_zero, List.set_cons_succ]
  refine till_takeAt 28 (i := 10) (v := .agg #[.int .i64 t, .int .i64 z, .int .i64 x]) rfl rfl (by kernel_rfl) (by kernel_rfl) (by kernel_rfl) (by kernel_rfl) (by kernel_rfl) (fun _ _ _ h => h) (Or.inl ⟨by rfl, fun w' hw' => by obtain q1 := hw'; go_simp⟩) hs ?_
  simp only [List.setIfInBounds_toArray, List.set_cons_zero, List.set_cons_succ]
  refine till_takeAt 29 (i := 11) (v := .iface 115 (.agg #[.int .i64 t, .int .i64 z, .int .i64 x])) rfl rfl (by kernel_rfl) (by kernel_rfl) (by kernel_rfl) (by kernel_rfl) (by kernel_rfl) (fun _ _ _ h => h) (Or.inl ⟨by rfl, fun w' hw' => by obtain q1 := hw'; go_simp⟩) hs ?_
  simp only [List.setIfInBounds_toArray, List.set_cons_zero, List.set_cons_succ]
  clear hs
  refine till_one (i := 12) (by kernel_rfl) rfl rfl (fun K hK => ?_)
  go_simp
  refine HPU.out.mono ?_
  rintro e w1 ⟨rfl, F', ⟨b, hb, hh, hpm⟩, hgo⟩
  refine hK _ _ ⟨fun h => absurd h (by omega), till_done (by kernel_rfl) ?_ _⟩
  clear hK
  have hc2 := (hb.count 0).2.2.1
  have HB := Lib.hid (And.intro hb (And.intro hh (And.intro hpm hgo)))
  clear hb hh hpm hgo hc hf
  go_wp2_with fail
  go_ret
  obtain ⟨hb, hh, hpm, hgo⟩ := HB.out
  refine ⟨rfl, F', ⟨b, hb, hh, hpm.trans (HP.out.2.cons _)⟩, ?_⟩
  exact Goes.trans ⟨HP.out.1, fun k hk => .inl hk⟩ (Goes.trans ⟨(Kept.refl F _).drew, fun k hk => .inl hk⟩ hgo)


def dzero : Value := .agg #[.int .i64 0, .int .i64 0, .int .i64 0]




theorem llen_any {p o : Nat} {S : Spot2 o} {sq : Int} {w : World} {F : List Nat} {l : List Due} (h : LineIs p S sq w F l) :
    Calls Tryz.prog 188 #[.pointer (some ⟨p, o, none⟩)] w fun e w' => e = .returned (.int .i64 (l.length : Nat)) ∧ w' = w := by
  obtain ⟨a, ha, hh, hpm⟩ := h
  have hl := dlen_any ha
  rw [show a.size = l.length by simpa using hpm.length_eq] at hl
  clear ha hh hpm
  generalize l.length = n at *
  go_enter Tryz.func188, Tryz.ntmps188
  go_wp2_with fail
  refine hl.mono ?_
  rintro e w' ⟨rfl, rfl⟩
  go_wp2_with fail
  go_ret
  exact ⟨rfl, rfl⟩



end Go.Proofs.YtmcfldcpmjdfbaaGreatDoor

namespace Go.Proofs.YtmcfldcpmjdfbaaGreatDoor
open Go.RowKit Go.Sort

def spotF (s v1 v2 : Value) : Spot 0 := ⟨42, fun v => #[v, s, v1, v2], fun _ => rfl, fun _ _ => rfl⟩
def spotW (v0 v2 : Value) : Spot2 1 := ⟨42, fun s v => #[v0, s, v, v2], fun _ _ => rfl, fun _ _ => rfl, fun _ _ _ => rfl, fun _ _ _ => rfl⟩
def spotP (v0 s v1 : Value) : Spot 3 := ⟨42, fun v => #[v0, s, v1, v], fun _ => rfl, fun _ _ => rfl⟩

/-- A row of numbers that is a heap of what stands in l. -/
def NRow (w : World) (p : Nat) (v : Value) (l : List Int) : Prop :=
  ∃ a : Array Int, w.ownsRow 0 3 1 v a.size (ints a) ∧ (∀ g, v.ownBlock = some g → g ≠ p) ∧ a.size ≤ 1000000 ∧ HeapFrom ltInt a a.size 0 ∧ a.toList.Perm l
/-- A row of what is due that is a heap of what stands in l. -/
def DRow (w : World) (p : Nat) (v : Value) (l : List Due) : Prop :=
  ∃ a : Array Due, w.ownsRow 0 115 3 v a.size (dlist a.toList) ∧ (∀ g, v.ownBlock = some g → g ≠ p) ∧ a.size ≤ 1000000 ∧ HeapFrom ltDue a a.size 0 ∧ a.toList.Perm l

section
variable {w w' : World} {p o : Nat} {v : Value} {F G : List Nat}
theorem NRow.kept {l : List Int} (h : NRow w p v l) (hk : Kept G w w') (hn : ∀ g, v.ownBlock = some g → g ∉ G) : NRow w' p v l := by
  obtain ⟨a, h1, h2, h3, h4, h5⟩ := h
  exact ⟨a, row_kept h1 hk hn, h2, h3, h4, h5⟩
theorem DRow.kept {l : List Due} (h : DRow w p v l) (hk : Kept G w w') (hn : ∀ g, v.ownBlock = some g → g ∉ G) : DRow w' p v l := by
  obtain ⟨a, h1, h2, h3, h4, h5⟩ := h
  exact ⟨a, row_kept h1 hk hn, h2, h3, h4, h5⟩
theorem NRow.lt {l : List Int} (h : NRow w p v l) (g : Nat) (hg : v.ownBlock = some g) : g < w.heap.size := by
  obtain ⟨a, h1, _⟩ := h
  exact (h1.lt g hg).2
theorem DRow.lt {l : List Due} (h : DRow w p v l) (g : Nat) (hg : v.ownBlock = some g) : g < w.heap.size := by
  obtain ⟨a, h1, _⟩ := h
  exact (h1.lt g hg).2
theorem NRow.ne {l : List Int} (h : NRow w p v l) (g : Nat) (hg : v.ownBlock = some g) : g ≠ p := by
  obtain ⟨a, _, h2, _⟩ := h
  exact h2 g hg
theorem DRow.ne {l : List Due} (h : DRow w p v l) (g : Nat) (hg : v.ownBlock = some g) : g ≠ p := by
  obtain ⟨a, _, h2, _⟩ := h
  exact h2 g hg
theorem NRow.nil (w : World) (p : Nat) : NRow w p (.slice none 0 0) [] := ⟨#[], World.ownsRow_nil _ _ _ _, by simp [Value.ownBlock], by simp, fun k _ hk => absurd hk (by simp), List.Perm.refl _⟩
theorem DRow.nil (w : World) (p : Nat) : DRow w p (.slice none 0 0) [] := ⟨#[], World.ownsRow_nil _ _ _ _, by simp [Value.ownBlock], by simp, fun k _ hk => absurd hk (by simp), List.Perm.refl _⟩
theorem NRow.perm {l m : List Int} (h : NRow w p v l) (hp : l.Perm m) : NRow w p v m := by
  obtain ⟨a, h1, h2, h3, h4, h5⟩ := h
  exact ⟨a, h1, h2, h3, h4, h5.trans hp⟩
theorem DRow.perm {l m : List Due} (h : DRow w p v l) (hp : l.Perm m) : DRow w p v m := by
  obtain ⟨a, h1, h2, h3, h4, h5⟩ := h
  exact ⟨a, h1, h2, h3, h4, h5.trans hp⟩

theorem pile_of {S : Spot o} {l : List Int} (hp : Has w p S.t (S.K v)) (h : NRow w p v l) : PileIs p S w (p :: v.ownBlock.toList) l := by
  obtain ⟨a, h1, h2, h3, h4, h5⟩ := h
  exact ⟨a, ⟨v, hp, h1, h2, rfl, h3⟩, h4, h5⟩
theorem of_pile {S : Spot o} {l : List Int} (h : PileIs p S w F l) : ∃ v, Has w p S.t (S.K v) ∧ NRow w p v l ∧ F = p :: v.ownBlock.toList := by
  obtain ⟨a, ⟨v, hp, h1, h2, rfl, h3⟩, h4, h5⟩ := h
  exact ⟨v, hp, ⟨a, h1, h2, h3, h4, h5⟩, rfl⟩
theorem line_of {S : Spot2 o} {sq : Int} {l : List Due} (hp : Has w p S.t (S.K (.int .i64 sq) v)) (h : DRow w p v l) : LineIs p S sq w (p :: v.ownBlock.toList) l := by
  obtain ⟨a, h1, h2, h3, h4, h5⟩ := h
  exact ⟨a, ⟨v, hp, h1, h2, rfl, h3⟩, h4, h5⟩
theorem of_line {S : Spot2 o} {sq : Int} {l : List Due} (h : LineIs p S sq w F l) : ∃ v, Has w p S.t (S.K (.int .i64 sq) v) ∧ DRow w p v l ∧ F = p :: v.ownBlock.toList := by
  obtain ⟨a, ⟨v, hp, h1, h2, rfl, h3⟩, h4, h5⟩ := h
  exact ⟨v, hp, ⟨a, h1, h2, h3, h4, h5⟩, rfl⟩
end

/-- Free pages at p: l are free, m wait (the last Seq is sq), k are pinned. -/
def FreeIs (p : Nat) (w : World) (F : List Nat) (l : List Int) (sq : Int) (m : List Due) (k : List Int) : Prop :=
  ∃ v0 v1 v2, Has w p 42 #[v0, .int .i64 sq, v1, v2] ∧ NRow w p v0 l ∧ DRow w p v1 m ∧ NRow w p v2 k ∧
    (∀ g, v0.ownBlock = some g → v1.ownBlock ≠ some g ∧ v2.ownBlock ≠ some g) ∧ (∀ g, v1.ownBlock = some g → v2.ownBlock ≠ some g) ∧
    F = p :: (v0.ownBlock.toList ++ v1.ownBlock.toList ++ v2.ownBlock.toList)

section
variable {w w' : World} {p : Nat} {F G : List Nat} {l k : List Int} {sq : Int} {m : List Due}
theorem FreeIs.lt (h : FreeIs p w F l sq m k) : ∀ x ∈ F, x < w.heap.size := by
  obtain ⟨v0, v1, v2, hp, h0, h1, h2, _, _, rfl⟩ := h
  intro x hx
  simp only [List.mem_cons, List.mem_append, Option.mem_toList] at hx
  rcases hx with rfl | (hx | hx) | hx
  · exact hp.inside
  · exact h0.lt x hx
  · exact h1.lt x hx
  · exact h2.lt x hx
theorem FreeIs.kept (h : FreeIs p w F l sq m k) (hk : Kept G w w') (hd : ∀ x ∈ F, x ∉ G) : FreeIs p w' F l sq m k := by
  obtain ⟨v0, v1, v2, hp, h0, h1, h2, h3, h4, rfl⟩ := h
  exact ⟨v0, v1, v2, hp.kept hk (hd p (by simp)), h0.kept hk (fun g hg => hd g (by simp [hg])), h1.kept hk (fun g hg => hd g (by simp [hg])), h2.kept hk (fun g hg => hd g (by simp [hg])), h3, h4, rfl⟩
theorem FreeIs.below (h : FreeIs p w F l sq m k) (hb : Below w.heap.size w w') : FreeIs p w' F l sq m k := h.kept (G := []) (Kept.of_below hb) (by simp)
theorem FreeIs.perm {l' k' : List Int} {m' : List Due} (h : FreeIs p w F l sq m k) (hl : l.Perm l') (hm : m.Perm m') (hk : k.Perm k') : FreeIs p w F l' sq m' k' := by
  obtain ⟨v0, v1, v2, hp, h0, h1, h2, h3, h4, rfl⟩ := h
  exact ⟨v0, v1, v2, hp, h0.perm hl, h1.perm hm, h2.perm hk, h3, h4, rfl⟩

/-- The free ones by themselves: who turns them turns nothing else. -/
theorem FreeIs.free (h : FreeIs p w F l sq m k) : ∃ (S : Spot 0) (F0 : List Nat), PileIs p S w F0 l ∧ (∀ x ∈ F0, x ∈ F) ∧
    ∀ w' F0' l', PileIs p S w' F0' l' → Goes F0 w F0' w' → ∃ F', FreeIs p w' F' l' sq m k ∧ Goes F w F' w' := by
  obtain ⟨v0, v1, v2, hp, h0, h1, h2, h3, h4, rfl⟩ := h
  refine ⟨spotF (.int .i64 sq) v1 v2, p :: v0.ownBlock.toList, pile_of (S := spotF (.int .i64 sq) v1 v2) hp h0, fun x hx => ?_, fun w' F0' l' hpi hgo => ?_⟩
  · simp at hx ⊢
    rcases hx with h | h <;> simp [h]
  · obtain ⟨u, hpu, hu, rfl⟩ := of_pile hpi
    have hne1 : ∀ g, v1.ownBlock = some g → g ∉ p :: v0.ownBlock.toList := fun g hg hin => by
      rcases List.mem_cons.1 hin with rfl | hin
      · exact h1.ne _ hg rfl
      · exact (h3 g (by simpa using hin)).1 hg
    have hne2 : ∀ g, v2.ownBlock = some g → g ∉ p :: v0.ownBlock.toList := fun g hg hin => by
      rcases List.mem_cons.1 hin with rfl | hin
      · exact h2.ne _ hg rfl
      · exact (h3 g (by simpa using hin)).2 hg
    have hub : ∀ g, u.ownBlock = some g → v0.ownBlock = some g ∨ w.heap.size ≤ g := fun g hg => by
      rcases hgo.2 g (by simp [hg]) with h | h
      · rcases List.mem_cons.1 h with rfl | h
        · exact absurd rfl (hu.ne _ hg)
        · exact .inl (by simpa using h)
      · exact .inr h
    refine ⟨_, ⟨u, v1, v2, hpu, hu, h1.kept hgo.1 hne1, h2.kept hgo.1 hne2, fun g hg => ?_, h4, rfl⟩, hgo.1.mono (fun x hx => .inl ?_), fun x hx => ?_⟩
    · rcases hub g hg with h | h
      · exact h3 g h
      · exact ⟨fun h' => by have := h1.lt g h'; omega, fun h' => by have := h2.lt g h'; omega⟩
    · simp at hx ⊢
      rcases hx with h | h <;> simp [h]
    · simp only [List.mem_cons, List.mem_append, Option.mem_toList] at hx ⊢
      rcases hx with rfl | (hx | hx) | hx
      · exact .inl (.inl rfl)
      · rcases hub x hx with h | h
        · exact .inl (.inr (.inl (.inl h)))
        · exact .inr h
      · exact .inl (.inr (.inl (.inr hx)))
      · exact .inl (.inr (.inr hx))

/-- Those that wait by themselves. -/
theorem FreeIs.waits (h : FreeIs p w F l sq m k) : ∃ (S : Spot2 1) (F0 : List Nat), LineIs p S sq w F0 m ∧ (∀ x ∈ F0, x ∈ F) ∧
    ∀ w' F0' sq' m', LineIs p S sq' w' F0' m' → Goes F0 w F0' w' → ∃ F', FreeIs p w' F' l sq' m' k ∧ Goes F w F' w' := by
  obtain ⟨v0, v1, v2, hp, h0, h1, h2, h3, h4, rfl⟩ := h
  refine ⟨spotW v0 v2, p :: v1.ownBlock.toList, line_of (S := spotW v0 v2) hp h1, fun x hx => ?_, fun w' F0' sq' m' hpi hgo => ?_⟩
  · simp at hx ⊢
    rcases hx with h | h <;> simp [h]
  · obtain ⟨u, hpu, hu, rfl⟩ := of_line hpi
    have hne0 : ∀ g, v0.ownBlock = some g → g ∉ p :: v1.ownBlock.toList := fun g hg hin => by
      rcases List.mem_cons.1 hin with rfl | hin
      · exact h0.ne _ hg rfl
      · exact (h3 g hg).1 (by simpa using hin)
    have hne2 : ∀ g, v2.ownBlock = some g → g ∉ p :: v1.ownBlock.toList := fun g hg hin => by
      rcases List.mem_cons.1 hin with rfl | hin
      · exact h2.ne _ hg rfl
      · exact h4 g (by simpa using hin) hg
    have hub : ∀ g, u.ownBlock = some g → v1.ownBlock = some g ∨ w.heap.size ≤ g := fun g hg => by
      rcases hgo.2 g (by simp [hg]) with h | h
      · rcases List.mem_cons.1 h with rfl | h
        · exact absurd rfl (hu.ne _ hg)
        · exact .inl (by simpa using h)
      · exact .inr h
    refine ⟨_, ⟨v0, u, v2, hpu, h0.kept hgo.1 hne0, hu, h2.kept hgo.1 hne2, fun g hg => ⟨fun h' => ?_, (h3 g hg).2⟩, fun g hg => ?_, rfl⟩, hgo.1.mono (fun x hx => .inl ?_), fun x hx => ?_⟩
    · rcases hub g h' with h | h
      · exact (h3 g hg).1 h
      · have := h0.lt g hg; omega
    · rcases hub g hg with h | h
      · exact h4 g h
      · exact fun h' => by have := h2.lt g h'; omega
    · simp at hx ⊢
      rcases hx with h | h <;> simp [h]
    · simp only [List.mem_cons, List.mem_append, Option.mem_toList] at hx ⊢
      rcases hx with rfl | (hx | hx) | hx
      · exact .inl (.inl rfl)
      · exact .inl (.inr (.inl (.inl hx)))
      · rcases hub x hx with h | h
        · exact .inl (.inr (.inl (.inr h)))
        · exact .inr h
      · exact .inl (.inr (.inr hx))

/-- The pins by themselves. -/
theorem FreeIs.pins (h : FreeIs p w F l sq m k) : ∃ (S : Spot 3) (F0 : List Nat), PileIs p S w F0 k ∧ (∀ x ∈ F0, x ∈ F) ∧
    ∀ w' F0' k', PileIs p S w' F0' k' → Goes F0 w F0' w' → ∃ F', FreeIs p w' F' l sq m k' ∧ Goes F w F' w' := by
  obtain ⟨v0, v1, v2, hp, h0, h1, h2, h3, h4, rfl⟩ := h
  refine ⟨spotP v0 (.int .i64 sq) v1, p :: v2.ownBlock.toList, pile_of (S := spotP v0 (.int .i64 sq) v1) hp h2, fun x hx => ?_, fun w' F0' k' hpi hgo => ?_⟩
  · simp at hx ⊢
    rcases hx with h | h <;> simp [h]
  · obtain ⟨u, hpu, hu, rfl⟩ := of_pile hpi
    have hne0 : ∀ g, v0.ownBlock = some g → g ∉ p :: v2.ownBlock.toList := fun g hg hin => by
      rcases List.mem_cons.1 hin with rfl | hin
      · exact h0.ne _ hg rfl
      · exact (h3 g hg).2 (by simpa using hin)
    have hne1 : ∀ g, v1.ownBlock = some g → g ∉ p :: v2.ownBlock.toList := fun g hg hin => by
      rcases List.mem_cons.1 hin with rfl | hin
      · exact h1.ne _ hg rfl
      · exact h4 g hg (by simpa using hin)
    have hub : ∀ g, u.ownBlock = some g → v2.ownBlock = some g ∨ w.heap.size ≤ g := fun g hg => by
      rcases hgo.2 g (by simp [hg]) with h | h
      · rcases List.mem_cons.1 h with rfl | h
        · exact absurd rfl (hu.ne _ hg)
        · exact .inl (by simpa using h)
      · exact .inr h
    refine ⟨_, ⟨v0, v1, u, hpu, h0.kept hgo.1 hne0, h1.kept hgo.1 hne1, hu, fun g hg => ⟨(h3 g hg).1, fun h' => ?_⟩, fun g hg h' => ?_, rfl⟩, hgo.1.mono (fun x hx => .inl ?_), fun x hx => ?_⟩
    · rcases hub g h' with h | h
      · exact (h3 g hg).2 h
      · have := h0.lt g hg; omega
    · rcases hub g h' with h | h
      · exact h4 g hg h
      · have := h1.lt g hg; omega
    · simp at hx ⊢
      rcases hx with h | h <;> simp [h]
    · simp only [List.mem_cons, List.mem_append, Option.mem_toList] at hx ⊢
      rcases hx with rfl | (hx | hx) | hx
      · exact .inl (.inl rfl)
      · exact .inl (.inr (.inl (.inl hx)))
      · exact .inl (.inr (.inl (.inr hx)))
      · rcases hub x hx with h | h
        · exact .inl (.inr (.inr h))
        · exact .inr h
end
end Go.Proofs.YtmcfldcpmjdfbaaGreatDoor

namespace Go.Proofs.YtmcfldcpmjdfbaaGreatDoor
open Go.RowKit Go.Sort

/-- No two have one Seq. -/
def Distinct (m : List Due) : Prop := (m.map fun d => d.2.1).Nodup
theorem Distinct.perm {m n : List Due} (h : Distinct m) (hp : m.Perm n) : Distinct n := (hp.map _).nodup_iff.1 h

theorem due_le {x y : Due} (h : ltDue y x = false) (hne : x.2.1 ≠ y.2.1) : ltDue x y = true := by
  simp only [ltDue, decide_eq_false_iff_not, decide_eq_true_eq] at *
  omega

theorem due_least (m : List Due) (h : m ≠ []) (hd : Distinct m) : ∃ x s, m.Perm (x :: s) ∧ (∀ y ∈ s, ltDue x y = true) ∧ Distinct s := by
  have hp := isort_perm (lt := ltDue) m
  have hs := isort_srt swo_due m
  cases hi : isort ltDue m with
  | nil =>
    rw [hi] at hp
    exact absurd (List.Perm.nil_eq hp).symm h
  | cons x s =>
    rw [hi] at hp hs
    have hdx : Distinct (x :: s) := hd.perm hp.symm
    have h2 := List.nodup_cons.1 (show ((x :: s).map fun d => d.2.1).Nodup from hdx)
    refine ⟨x, s, hp.symm, fun y hy => due_le ((List.pairwise_cons.1 hs).1 y hy) (fun e => ?_), h2.2⟩
    have hin : x.2.1 ∈ s.map fun d : Due => d.2.1 := by
      rw [e]
      exact List.mem_map_of_mem (f := fun d : Due => d.2.1) hy
    exact h2.1 hin

theorem int_least (m : List Int) (h : m ≠ []) : ∃ x s, m.Perm (x :: s) ∧ ∀ y ∈ s, x ≤ y := by
  have hp := List.mergeSort_perm m leInt
  have hs := srt_le m
  cases hi : m.mergeSort leInt with
  | nil =>
    rw [hi] at hp
    exact absurd (List.Perm.nil_eq hp).symm h
  | cons x s =>
    rw [hi] at hp hs
    exact ⟨x, s, hp.symm, (List.pairwise_cons.1 hs).1⟩

end Go.Proofs.YtmcfldcpmjdfbaaGreatDoor

namespace Go.Proofs.YtmcfldcpmjdfbaaGreatDoor
open Go.RowKit Go.Sort

/-- What was put: each time with its number, and its place. -/
def mkd (l : List Int) : List Due := l.zipIdx.map fun t => (t.1, ((t.2 + 1 : Nat) : Int), ((t.2 : Nat) : Int))
theorem mkd_snoc (l : List Int) (x : Int) : mkd (l ++ [x]) = mkd l ++ [(x, ((l.length + 1 : Nat) : Int), (l.length : Int))] := by
  unfold mkd
  rw [List.zipIdx_append]
  simp
theorem length_mkd (l : List Int) : (mkd l).length = l.length := by simp [mkd]
theorem mem_mkd {l : List Int} {d : Due} (h : d ∈ mkd l) : ∃ i, ∃ h : i < l.length, d = (l[i], ((i + 1 : Nat) : Int), (i : Int)) := by
  unfold mkd at h
  obtain ⟨t, ht, rfl⟩ := List.mem_map.1 h
  obtain ⟨t1, t2⟩ := t
  have h1 := List.mem_zipIdx ht
  have hlt : t2 < l.length := by omega
  have e : t1 = l[t2] := by simpa using h1.2.2
  exact ⟨t2, hlt, by simp [e]⟩
theorem distinct_mkd (l : List Int) : Distinct (mkd l) := by
  unfold Distinct mkd
  rw [List.map_map]
  have : (fun d : Due => d.2.1) ∘ (fun t : Int × Nat => ((t.1, ((t.2 + 1 : Nat) : Int), ((t.2 : Nat) : Int)) : Due)) = (fun n : Nat => ((n + 1 : Nat) : Int)) ∘ Prod.snd := by
    funext t
    rfl
  rw [this, ← List.map_map, List.zipIdx_map_snd]
  refine List.Pairwise.map _ (fun a b hab => ?_) (List.nodup_range' 1 (by omega))
  simp
  omega


theorem take_mkd (l : List Int) (k : Nat) (h : k < l.length) : mkd (l.take (k + 1)) = mkd (l.take k) ++ [(l[k], ((k + 1 : Nat) : Int), (k : Int))] := by
  rw [List.take_succ_eq_append_getElem h, mkd_snoc]
  have : (l.take k).length = k := by simp; omega
  rw [this]
end Go.Proofs.YtmcfldcpmjdfbaaGreatDoor
