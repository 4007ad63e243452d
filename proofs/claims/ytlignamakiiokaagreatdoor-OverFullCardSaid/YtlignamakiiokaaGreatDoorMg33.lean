/-
  Make and Drop of a pager, each in one word.
-/
import Derived.Test.YtlignamakiiokaaGreatDoorMg30
import Derived.Test.YtlignamakiiokaaGreatDoorMg32
import Derived.Test.YtlignamakiiokaaGreatDoorMg10
namespace Go.Proofs.YtlignamakiiokaaGreatDoor
open Go.RowKit Go.Sort Go.Lib

/-- The number that Make gives, and what it is taken from. -/
def Cand (s : PgS) (id : Int) (s1 : PgS) : Prop :=
  (∃ l, s.spare.Perm (id :: l) ∧ s1 = { s with spare := l }) ∨ (s.spare = [] ∧ ∃ l, s.l.Perm (id :: l) ∧ s1 = { s with l := l }) ∨
  (s.spare = [] ∧ s.l = [] ∧ id = s.pages ∧ ((s.pages < s.dev.pages.length ∧ s1 = { s with pages := s.pages + 1 }) ∨ (s.pages = s.dev.pages.length ∧ s.pages < s.dev.most ∧ s1 = { s with pages := s.pages + 1, dev := longer s.dev 1 })))
def MakeTo (s : PgS) (k n : Int) (t : ByteArray) (id r : Int) (s' : PgS) : Prop :=
  (r ≠ 0 ∧ id = 0 ∧ s' = s) ∨ (r = 0 ∧ sealE id k n t.size = 0 ∧ ∃ s1, Cand s id s1 ∧ s' = keptS s1 id ⟨1, k, n, t⟩)
def DropTo (s : PgS) (x : Int) (s' : PgS) : Prop :=
  s' = s ∨ (2 ≤ x ∧ x < s.pages ∧ (s.H x).fate ≠ 1 ∧ (s.H x).fate ≠ 2 ∧ (s.H x).fate ≠ 3 ∧ s' = keptS s x (chg0 2)) ∨
  ((s.H x).fate = 1 ∧ x < s.there ∧ s' = { keptS s x (chg0 3) with l := x :: s.l }) ∨ ((s.H x).fate = 1 ∧ s.there ≤ x ∧ s' = { keptS s x (chg0 3) with spare := x :: s.spare })

/-- What is asked of a pager that its calls may be told so. -/
structure PgOK (s : PgS) : Prop where
  idle : Idle s.dev
  lo : 2 ≤ s.pages
  len : s.pages ≤ s.dev.pages.length
  most : s.dev.pages.length ≤ s.dev.most
  few : s.dev.most ≤ 3000
  spare : ∀ x ∈ s.spare, 2 ≤ x ∧ x < s.pages
  free : ∀ x ∈ s.l, 2 ≤ x ∧ x < s.pages
  sizes : s.n ≤ 10000 ∧ s.spare.length ≤ 10000 ∧ s.l.length ≤ 10000
  body : ∀ x, (s.H x).body.size ≤ 1000
  place : ∀ x, (s.H x).fate = 1 → 2 ≤ x ∧ x < s.pages

section
variable {p pd pf b : Nat} {s : PgS} {F : List Nat} {w : World}

end

theorem seal_le {x k n : Int} {t : ByteArray} (h : sealE x k n t.size = 0) : t.size ≤ 1000 := by have := seal_small h; omega

/-- What is asked stays so. -/
theorem PgOK.made {s s' : PgS} {k n id r : Int} {t : ByteArray} (h : PgOK s) (hm : MakeTo s k n t id r s') (hn : s.n < 9000 ∧ s.spare.length < 9000 ∧ s.l.length < 9000) : PgOK s' := by
  rcases hm with ⟨_, _, rfl⟩ | ⟨_, hse, s1, hc, rfl⟩
  · exact h
  · have hbody : ∀ (H : Int → Chg), (∀ x, (H x).body.size ≤ 1000) → ∀ x, ((upd H id ⟨1, k, n, t⟩) x).body.size ≤ 1000 := fun H hH x => by
      by_cases e : x = id
      · subst e
        rw [upd_same]
        exact seal_le hse
      · rw [upd_other _ _ e]
        exact hH x
    have hplace : ∀ (H : Int → Chg) (q : Int), (2 ≤ id ∧ id < q) → (∀ x, (H x).fate = 1 → 2 ≤ x ∧ x < q) → ∀ x, ((upd H id ⟨1, k, n, t⟩) x).fate = 1 → 2 ≤ x ∧ x < q := fun H q hid hH x hx => by
      by_cases e : x = id
      · subst e
        exact hid
      · rw [upd_other _ _ e] at hx
        exact hH x hx
    rcases hc with ⟨l, hp, rfl⟩ | ⟨hsp, l, hp, rfl⟩ | ⟨hsp, hfr, rfl, h1⟩
    · have hl := hp.length_eq
      simp at hl
      exact ⟨h.idle, h.lo, h.len, h.most, h.few, fun x hx => h.spare x (hp.mem_iff.2 (List.mem_cons_of_mem _ hx)), h.free, ⟨by show s.n + 1 ≤ _; omega, by show l.length ≤ _; omega, by show s.l.length ≤ _; omega⟩, hbody _ h.body, hplace _ _ (h.spare id (hp.mem_iff.2 (by simp))) h.place⟩
    · have hl := hp.length_eq
      simp at hl
      exact ⟨h.idle, h.lo, h.len, h.most, h.few, h.spare, fun x hx => h.free x (hp.mem_iff.2 (List.mem_cons_of_mem _ hx)), ⟨by show s.n + 1 ≤ _; omega, by show s.spare.length ≤ _; omega, by show l.length ≤ _; omega⟩, hbody _ h.body, hplace _ _ (h.free id (hp.mem_iff.2 (by simp))) h.place⟩
    · have hlo := h.lo
      have hpl := hplace s.H (s.pages + 1) (by omega) (fun x hx => by have := h.place x hx; omega)
      rcases h1 with ⟨a, rfl⟩ | ⟨a, c, rfl⟩
      · exact ⟨h.idle, by show 2 ≤ s.pages + 1; omega, by show s.pages + 1 ≤ (s.dev.pages.length : Int); omega, h.most, h.few, fun x hx => by have := h.spare x hx; show _ ∧ x < s.pages + 1; omega, fun x hx => by have := h.free x hx; show _ ∧ x < s.pages + 1; omega, ⟨by show s.n + 1 ≤ _; omega, by show s.spare.length ≤ _; omega, by show s.l.length ≤ _; omega⟩, hbody _ h.body, hpl⟩
      · refine ⟨longer_idle h.idle 1, by show 2 ≤ s.pages + 1; omega, ?_, ?_, h.few, fun x hx => by have := h.spare x hx; show _ ∧ x < s.pages + 1; omega, fun x hx => by have := h.free x hx; show _ ∧ x < s.pages + 1; omega, ⟨by show s.n + 1 ≤ _; omega, by show s.spare.length ≤ _; omega, by show s.l.length ≤ _; omega⟩, hbody _ h.body, hpl⟩
        · show s.pages + 1 ≤ ((longer s.dev 1).pages.length : Int)
          rw [longer_len]
          omega
        · show ((longer s.dev 1).pages.length : Int) ≤ s.dev.most
          rw [longer_len]
          omega
theorem PgOK.dropped {s s' : PgS} {x : Int} (h : PgOK s) (hd : DropTo s x s') (hn : s.n < 9000 ∧ s.spare.length < 9000 ∧ s.l.length < 9000) : PgOK s' := by
  have hbody : ∀ f, ∀ y, ((upd s.H x (chg0 f)) y).body.size ≤ 1000 := fun f y => by
    by_cases e : y = x
    · subst e
      rw [upd_same]
      show (⟨#[]⟩ : ByteArray).size ≤ 1000
      decide
    · rw [upd_other _ _ e]
      exact h.body y
  have hplace : ∀ f, f ≠ 1 → ∀ y, ((upd s.H x (chg0 f)) y).fate = 1 → 2 ≤ y ∧ y < s.pages := fun f hf y hy => by
    by_cases e : y = x
    · subst e
      rw [upd_same] at hy
      exact absurd hy hf
    · rw [upd_other _ _ e] at hy
      exact h.place y hy
  rcases hd with rfl | ⟨_, _, _, _, _, rfl⟩ | ⟨hf, _, rfl⟩ | ⟨hf, _, rfl⟩
  · exact h
  · exact ⟨h.idle, h.lo, h.len, h.most, h.few, h.spare, h.free, ⟨by show s.n + 1 ≤ _; omega, by show s.spare.length ≤ _; omega, by show s.l.length ≤ _; omega⟩, hbody 2, hplace 2 (by decide)⟩
  · exact ⟨h.idle, h.lo, h.len, h.most, h.few, h.spare, fun y hy => by rcases List.mem_cons.1 hy with rfl | hy; exact h.place _ hf; exact h.free y hy, ⟨by show s.n + 1 ≤ _; omega, by show s.spare.length ≤ _; omega, by show (x :: s.l).length ≤ _; simp; omega⟩, hbody 3, hplace 3 (by decide)⟩
  · exact ⟨h.idle, h.lo, h.len, h.most, h.few, fun y hy => by rcases List.mem_cons.1 hy with rfl | hy; exact h.place _ hf; exact h.spare y hy, h.free, ⟨by show s.n + 1 ≤ _; omega, by show (x :: s.spare).length ≤ _; simp; omega, by show s.l.length ≤ _; omega⟩, hbody 3, hplace 3 (by decide)⟩
end Go.Proofs.YtlignamakiiokaaGreatDoor
