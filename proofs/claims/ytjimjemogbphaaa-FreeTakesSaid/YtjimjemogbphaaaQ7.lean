/-
  Free pages and a row of numbers of a law's own, side by side.
-/
import Derived.Test.YtjimjemogbphaaaQ6
namespace Go.Proofs.Ytjimjemogbphaaa
open Go.RowKit Go.Sort

section
variable {p sq : Nat} {w : World} {F : List Nat} {l k : List Int} {m : List Due}
theorem reads_one {F : List Nat} {w : World} (x : Int) (hlt : ∀ y ∈ F, y < w.heap.size) : ReadsO F (w.alloc (.cells #[.int .i64 x] 3)) (.slice (some ⟨w.heap.size, 0, none⟩) 1 1) ([x].map (.int .i64)) :=
  ⟨some ⟨w.heap.size, 0, none⟩, 1, rfl, fun _ => ⟨w.heap.size, 0, rfl, by simp, fun hF => by have := hlt _ hF; omega, fun j u hu => by
    rw [Nat.zero_add, (Has.made w 3 #[.int .i64 x]).cell j]
    simpa using hu⟩⟩
/-- One page is given, in a row that was just made for it. -/
theorem fgive1_any (t x : Int) (h : FreeIs p w F l (sq : Int) m k) (hl : m.length < 1000000) (hsq : sq < 1000000) :
    Calls Try.prog 6 #[.pointer (some ⟨p, 0, none⟩), .int .i64 t, .slice (some ⟨w.heap.size, 0, none⟩) 1 1] (w.alloc (.cells #[.int .i64 x] 3)) fun e w' => e = .returned (.tuple #[]) ∧ ∃ F', FreeIs p w' F' l ((sq + 1 : Nat) : Int) ((t, ((sq + 1 : Nat) : Int), x) :: m) k ∧ Goes F w F' w' := by
  have hb0 : Below w.heap.size w (w.alloc (.cells #[.int .i64 x] 3)) := (Below.refl _ _).alloc (Nat.le_refl _) _
  refine (fgive_any t (h.below hb0) (reads_one x h.lt) (by simp; omega) (by simp; omega)).mono ?_
  rintro e w' ⟨rfl, F', hf, hg⟩
  rw [giv_one] at hf
  exact ⟨rfl, F', hf, Goes.trans ⟨Kept.of_below hb0, fun x hx => .inl hx⟩ hg⟩
/-- One page is given back at once, in a row that was just made for it. -/
theorem fbackone_any (x : Int) (h : FreeIs p w F l (sq : Int) m k) (hl : l.length < 1000000) :
    Calls Try.prog 7 #[.pointer (some ⟨p, 0, none⟩), .slice (some ⟨w.heap.size, 0, none⟩) 1 1] (w.alloc (.cells #[.int .i64 x] 3)) fun e w' => e = .returned (.tuple #[]) ∧ ∃ F', FreeIs p w' F' (x :: l) (sq : Int) m k ∧ Goes F w F' w' := by
  have hb0 : Below w.heap.size w (w.alloc (.cells #[.int .i64 x] 3)) := (Below.refl _ _).alloc (Nat.le_refl _) _
  refine (fback_any (h.below hb0) (reads_one x h.lt) (by simp; omega)).mono ?_
  rintro e w' ⟨rfl, F', hf, hg⟩
  exact ⟨rfl, F', hf, Goes.trans ⟨Kept.of_below hb0, fun x hx => .inl hx⟩ hg⟩
end

/-- Free pages at p, and a row of numbers v that shares no block with them; all in blocks that are made since base. -/
def FT (base : Nat) (w : World) (p : Nat) (l : List Int) (sq : Nat) (m : List Due) (k : List Int) (v : Value) (xs : List Int) : Prop :=
  ∃ F, FreeIs p w F l (sq : Int) m k ∧ (∀ x ∈ F, base ≤ x) ∧ w.ownsRow 0 3 1 v xs.length (xs.map (.int .i64)) ∧ ∀ g, v.ownBlock = some g → base ≤ g ∧ g ∉ F

section
variable {base p sq sq' : Nat} {w w' : World} {F F' : List Nat} {l k l' k' : List Int} {m m' : List Due} {v : Value} {xs : List Int}
theorem FT.fre (h : FT base w p l sq m k v xs) : Fre base w p l sq m k := by
  obtain ⟨F, h1, h2, _⟩ := h
  exact ⟨F, h1, h2⟩
theorem FT.below (h : FT base w p l sq m k v xs) (hb : Below w.heap.size w w') : FT base w' p l sq m k v xs := by
  obtain ⟨F, h1, h2, h3, h4⟩ := h
  exact ⟨F, h1.below hb, h2, row_kept h3 (Kept.of_below (F := []) hb) (by simp), h4⟩
theorem FT.perm (h : FT base w p l sq m k v xs) (hl : l.Perm l') (hm : m.Perm m') (hk : k.Perm k') : FT base w p l' sq m' k' v xs := by
  obtain ⟨F, h1, h2, h3, h4⟩ := h
  exact ⟨F, h1.perm hl hm hk, h2, h3, h4⟩
/-- The pages turn, the row stays. -/
theorem ft_goes (hF : ∀ x ∈ F, base ≤ x) (hr : w.ownsRow 0 3 1 v xs.length (xs.map (.int .i64))) (hne : ∀ g, v.ownBlock = some g → base ≤ g ∧ g ∉ F) (hb : base ≤ w.heap.size) (h : FreeIs p w' F' l' (sq' : Int) m' k') (hg : Goes F w F' w') :
    FT base w' p l' sq' m' k' v xs ∧ Below base w w' :=
  ⟨⟨F', h, fun x hx => (hg.2 x hx).elim (hF x) (fun h => by omega), row_kept hr hg.1 (fun g hv => (hne g hv).2), fun g hv => ⟨(hne g hv).1, fun hin => (hg.2 g hin).elim (hne g hv).2 (fun h => by have := (hr.lt g hv).2; omega)⟩⟩, hg.1.below hb hF⟩
/-- The row grows, the pages stay. -/
theorem ft_grown {v' : Value} {ys : List Int} (h : FT base w p l sq m k v xs) (hb : base ≤ w.heap.size) (hr : w'.ownsRow 0 3 1 v' ys.length (ys.map (.int .i64))) (hg : Grown w v v' w') : FT base w' p l sq m k v' ys ∧ Below base w w' := by
  obtain ⟨F, h1, h2, h3, h4⟩ := h
  have hb2 : Below base w w' := hg.1.1.below hb (fun q hq => (h4 q (by simpa using hq)).1)
  have hge : ∀ g, v'.ownBlock = some g → base ≤ g := fun g hv => (hg.1.2 g (by simp [hv])).elim (fun h => (h4 g (by simpa using h)).1) (fun h => by omega)
  refine ⟨⟨F, h1.kept hg.1.1 (fun x hx hin => ?_), h2, hr, fun g hv => ⟨hge g hv, fun hin => ?_⟩⟩, hb2⟩
  · exact (h4 x (by simpa using hin)).2 hx
  · rcases hg.1.2 g (by simp [hv]) with h | h
    · exact (h4 g (by simpa using h)).2 hin
    · have := h1.lt g hin
      omega

theorem ft_take {x : Int} {s : List Int} (h : FT base w p l sq m k v xs) (hb : base ≤ w.heap.size) (hp : l.Perm (x :: s)) (hm : ∀ y ∈ s, x ≤ y) :
    Calls Try.prog 9 #[.pointer (some ⟨p, 0, none⟩)] w fun e w' => e = .returned (.tuple #[.int .i64 x, .bool true]) ∧ FT base w' p s sq m k v xs ∧ Below base w w' := by
  obtain ⟨F, h1, h2, h3, h4⟩ := h
  refine (ftake_some h1 hp hm).mono ?_
  rintro e w' ⟨rfl, F', hf, hg⟩
  exact ⟨rfl, ft_goes h2 h3 h4 hb hf hg⟩
theorem ft_give1 (t x : Int) (h : FT base w p l sq m k v xs) (hb : base ≤ w.heap.size) (hl : m.length < 1000000) (hsq : sq < 1000000) :
    Calls Try.prog 6 #[.pointer (some ⟨p, 0, none⟩), .int .i64 t, .slice (some ⟨w.heap.size, 0, none⟩) 1 1] (w.alloc (.cells #[.int .i64 x] 3)) fun e w' => e = .returned (.tuple #[]) ∧ FT base w' p l (sq + 1) ((t, ((sq + 1 : Nat) : Int), x) :: m) k v xs ∧ Below base w w' := by
  obtain ⟨F, h1, h2, h3, h4⟩ := h
  refine (fgive1_any t x h1 hl hsq).mono ?_
  rintro e w' ⟨rfl, F', hf, hg⟩
  exact ⟨rfl, ft_goes h2 h3 h4 hb hf hg⟩
theorem ft_back1 (x : Int) (h : FT base w p l sq m k v xs) (hb : base ≤ w.heap.size) (hl : l.length < 1000000) :
    Calls Try.prog 7 #[.pointer (some ⟨p, 0, none⟩), .slice (some ⟨w.heap.size, 0, none⟩) 1 1] (w.alloc (.cells #[.int .i64 x] 3)) fun e w' => e = .returned (.tuple #[]) ∧ FT base w' p (x :: l) sq m k v xs ∧ Below base w w' := by
  obtain ⟨F, h1, h2, h3, h4⟩ := h
  refine (fbackone_any x h1 hl).mono ?_
  rintro e w' ⟨rfl, F', hf, hg⟩
  exact ⟨rfl, ft_goes h2 h3 h4 hb hf hg⟩
theorem fre_all (h : Fre base w p l sq m k) (hfew : l.length + m.length ≤ 1000000) :
    Calls Try.prog 16 #[.pointer (some ⟨p, 0, none⟩)] w fun e w' => ∃ v', e = .returned v' ∧ w'.ownsRow w.heap.size 3 1 v' (l.length + m.length) (((l ++ whats m).mergeSort leInt).map (.int .i64)) ∧ Below w.heap.size w w' := by
  obtain ⟨F, h1, h2⟩ := h
  exact fall_any h1 hfew
/-- A cell of the row. -/
theorem FT.at (h : FT base w p l sq m k v xs) (i : Nat) (hi : i < xs.length) : ∃ g c, v = .slice (some ⟨g, 0, none⟩) xs.length c ∧ w.cell? ⟨g, i, none⟩ = some (.int .i64 xs[i]) := by
  obtain ⟨F, h1, h2, h3, h4⟩ := h
  rcases h3.2 with ⟨_, h0⟩ | ⟨g, cap, cur, rfl, _⟩
  · omega
  · refine ⟨g, cap, rfl, ?_⟩
    rw [h3.cellAt i (by omega)]
    simp [hi]
theorem FT.form (h : FT base w p l sq m k v xs) : ∃ A c, v = .slice A xs.length c := by
  obtain ⟨F, h1, h2, h3, h4⟩ := h
  exact row_form h3
end
end Go.Proofs.Ytjimjemogbphaaa
