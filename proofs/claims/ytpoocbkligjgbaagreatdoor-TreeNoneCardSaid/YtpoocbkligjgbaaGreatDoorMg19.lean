/-
  Make and Drop of a pager, each in one word. A pager that has flushed nothing yet, over a device without free pages: what it makes, drops and reads, as functions of what it is.
-/
import Derived.Test.YtpoocbkligjgbaaGreatDoorMg16
import Derived.Test.YtpoocbkligjgbaaGreatDoorMg18
import Derived.Test.YtpoocbkligjgbaaGreatDoorMg6
import Derived.RangeFuncNested
namespace Go.Proofs.YtpoocbkligjgbaaGreatDoor
open Go.RowKit Go.Sort Go.Lib

/-- The number that Make gives, and what it is taken from. -/
def Cand (s : PgS) (id : Int) (s1 : PgS) : Prop :=
  (∃ l, s.spare.Perm (id :: l) ∧ s1 = { s with spare := l }) ∨ (s.spare = [] ∧ ∃ l, s.l.Perm (id :: l) ∧ s1 = { s with l := l }) ∨
  (s.spare = [] ∧ s.l = [] ∧ id = s.pages ∧ ((s.pages < s.dev.pages.length ∧ s1 = { s with pages := s.pages + 1 }) ∨ (s.pages = s.dev.pages.length ∧ s.pages < s.dev.most ∧ s1 = { s with pages := s.pages + 1, dev := longer s.dev 1 })))
def MakeTo (s : PgS) (k n : Int) (t : ByteArray) (id r : Int) (s' : PgS) : Prop :=
  (r ≠ 0 ∧ id = 0 ∧ s' = s) ∨ (r = 0 ∧ sealE id k n t.size = 0 ∧ ∃ s1, Cand s id s1 ∧ s' = keptS s1 id ⟨1, k, n, t⟩)
def DropTo (s : PgS) (x : Int) (s' : PgS) : Prop :=
  s' = s ∨ (2 ≤ x ∧ x < s.pages ∧ (s.H x).fate ≠ 1 ∧ (s.H x).fate ≠ 2 ∧ (s.H x).fate ≠ 3 ∧ s' = keptS s x (chg0 2)) ∨
  ((s.H x).fate = 1 ∧ x < s.there ∧ s' = { keptS s x (chg0 3) with l := x :: s.l }) ∨ ((s.H x).fate = 1 ∧ s.there ≤ x ∧ s' = { keptS s x (chg0 3) with spare := x :: s.spare })

/-- What is asked of a pager that its calls may be told so. -/
structure PgOK (s : PgS) : Prop where
  idle : Idle s.dev
  lo : 2 ≤ s.pages
  len : s.pages ≤ s.dev.pages.length
  most : s.dev.pages.length ≤ s.dev.most
  few : s.dev.most ≤ 3000
  spare : ∀ x ∈ s.spare, 2 ≤ x ∧ x < s.pages
  free : ∀ x ∈ s.l, 2 ≤ x ∧ x < s.pages
  sizes : s.n ≤ 10000 ∧ s.spare.length ≤ 10000 ∧ s.l.length ≤ 10000
  body : ∀ x, (s.H x).body.size ≤ 1000
  place : ∀ x, (s.H x).fate = 1 → 2 ≤ x ∧ x < s.pages

section
variable {p pd pf b : Nat} {s : PgS} {F : List Nat} {w : World}

end

theorem seal_le {x k n : Int} {t : ByteArray} (h : sealE x k n t.size = 0) : t.size ≤ 1000 := by have := seal_small h; omega

/-- What is asked stays so. -/
theorem PgOK.made {s s' : PgS} {k n id r : Int} {t : ByteArray} (h : PgOK s) (hm : MakeTo s k n t id r s') (hn : s.n < 9000 ∧ s.spare.length < 9000 ∧ s.l.length < 9000) : PgOK s' := by
  rcases hm with ⟨_, _, rfl⟩ | ⟨_, hse, s1, hc, rfl⟩
  · exact h
  · have hbody : ∀ (H : Int → Chg), (∀ x, (H x).body.size ≤ 1000) → ∀ x, ((upd H id ⟨1, k, n, t⟩) x).body.size ≤ 1000 := fun H hH x => by
      by_cases e : x = id
      · subst e
        rw [upd_same]
        exact seal_le hse
      · rw [upd_other _ _ e]
        exact hH x
    have hplace : ∀ (H : Int → Chg) (q : Int), (2 ≤ id ∧ id < q) → (∀ x, (H x).fate = 1 → 2 ≤ x ∧ x < q) → ∀ x, ((upd H id ⟨1, k, n, t⟩) x).fate = 1 → 2 ≤ x ∧ x < q := fun H q hid hH x hx => by
      by_cases e : x = id
      · subst e
        exact hid
      · rw [upd_other _ _ e] at hx
        exact hH x hx
    rcases hc with ⟨l, hp, rfl⟩ | ⟨hsp, l, hp, rfl⟩ | ⟨hsp, hfr, rfl, h1⟩
    · have hl := hp.length_eq
      simp at hl
      exact ⟨h.idle, h.lo, h.len, h.most, h.few, fun x hx => h.spare x (hp.mem_iff.2 (List.mem_cons_of_mem _ hx)), h.free, ⟨by show s.n + 1 ≤ _; omega, by show l.length ≤ _; omega, by show s.l.length ≤ _; omega⟩, hbody _ h.body, hplace _ _ (h.spare id (hp.mem_iff.2 (by simp))) h.place⟩
    · have hl := hp.length_eq
      simp at hl
      exact ⟨h.idle, h.lo, h.len, h.most, h.few, h.spare, fun x hx => h.free x (hp.mem_iff.2 (List.mem_cons_of_mem _ hx)), ⟨by show s.n + 1 ≤ _; omega, by show s.spare.length ≤ _; omega, by show l.length ≤ _; omega⟩, hbody _ h.body, hplace _ _ (h.free id (hp.mem_iff.2 (by simp))) h.place⟩
    · have hlo := h.lo
      have hpl := hplace s.H (s.pages + 1) (by omega) (fun x hx => by have := h.place x hx; omega)
      rcases h1 with ⟨a, rfl⟩ | ⟨a, c, rfl⟩
      · exact ⟨h.idle, by show 2 ≤ s.pages + 1; omega, by show s.pages + 1 ≤ (s.dev.pages.length : Int); omega, h.most, h.few, fun x hx => by have := h.spare x hx; show _ ∧ x < s.pages + 1; omega, fun x hx => by have := h.free x hx; show _ ∧ x < s.pages + 1; omega, ⟨by show s.n + 1 ≤ _; omega, by show s.spare.length ≤ _; omega, by show s.l.length ≤ _; omega⟩, hbody _ h.body, hpl⟩
      · refine ⟨longer_idle h.idle 1, by show 2 ≤ s.pages + 1; omega, ?_, ?_, h.few, fun x hx => by have := h.spare x hx; show _ ∧ x < s.pages + 1; omega, fun x hx => by have := h.free x hx; show _ ∧ x < s.pages + 1; omega, ⟨by show s.n + 1 ≤ _; omega, by show s.spare.length ≤ _; omega, by show s.l.length ≤ _; omega⟩, hbody _ h.body, hpl⟩
        · show s.pages + 1 ≤ ((longer s.dev 1).pages.length : Int)
          rw [longer_len]
          omega
        · show ((longer s.dev 1).pages.length : Int) ≤ s.dev.most
          rw [longer_len]
          omega
theorem PgOK.dropped {s s' : PgS} {x : Int} (h : PgOK s) (hd : DropTo s x s') (hn : s.n < 9000 ∧ s.spare.length < 9000 ∧ s.l.length < 9000) : PgOK s' := by
  have hbody : ∀ f, ∀ y, ((upd s.H x (chg0 f)) y).body.size ≤ 1000 := fun f y => by
    by_cases e : y = x
    · subst e
      rw [upd_same]
      show (⟨#[]⟩ : ByteArray).size ≤ 1000
      decide
    · rw [upd_other _ _ e]
      exact h.body y
  have hplace : ∀ f, f ≠ 1 → ∀ y, ((upd s.H x (chg0 f)) y).fate = 1 → 2 ≤ y ∧ y < s.pages := fun f hf y hy => by
    by_cases e : y = x
    · subst e
      rw [upd_same] at hy
      exact absurd hy hf
    · rw [upd_other _ _ e] at hy
      exact h.place y hy
  rcases hd with rfl | ⟨_, _, _, _, _, rfl⟩ | ⟨hf, _, rfl⟩ | ⟨hf, _, rfl⟩
  · exact h
  · exact ⟨h.idle, h.lo, h.len, h.most, h.few, h.spare, h.free, ⟨by show s.n + 1 ≤ _; omega, by show s.spare.length ≤ _; omega, by show s.l.length ≤ _; omega⟩, hbody 2, hplace 2 (by decide)⟩
  · exact ⟨h.idle, h.lo, h.len, h.most, h.few, h.spare, fun y hy => by rcases List.mem_cons.1 hy with rfl | hy; exact h.place _ hf; exact h.free y hy, ⟨by show s.n + 1 ≤ _; omega, by show s.spare.length ≤ _; omega, by show (x :: s.l).length ≤ _; simp; omega⟩, hbody 3, hplace 3 (by decide)⟩
  · exact ⟨h.idle, h.lo, h.len, h.most, h.few, fun y hy => by rcases List.mem_cons.1 hy with rfl | hy; exact h.place _ hf; exact h.spare y hy, h.free, ⟨by show s.n + 1 ≤ _; omega, by show (x :: s.spare).length ≤ _; simp; omega, by show s.l.length ≤ _; omega⟩, hbody 3, hplace 3 (by decide)⟩
end Go.Proofs.YtpoocbkligjgbaaGreatDoor

namespace Go.Proofs.YtpoocbkligjgbaaGreatDoor
open Go.RowKit Go.Sort Go.Lib

/-- The least of l, or q. -/
def candL (q : Int) : List Int → Int
  | [] => q
  | x :: l => l.foldl min x
theorem foldl_min_le : ∀ (l : List Int) (x : Int), l.foldl min x ≤ x ∧ (∀ y ∈ l, l.foldl min x ≤ y) ∧ l.foldl min x ∈ x :: l
  | [], x => ⟨Int.le_refl _, by simp, by simp⟩
  | y :: l, x => by
    obtain ⟨h1, h2, h3⟩ := foldl_min_le l (min x y)
    refine ⟨by show l.foldl min (min x y) ≤ x; omega, fun z hz => ?_, ?_⟩
    · show l.foldl min (min x y) ≤ z
      rcases List.mem_cons.1 hz with rfl | hz
      · omega
      · exact h2 z hz
    · show l.foldl min (min x y) ∈ x :: y :: l
      rcases List.mem_cons.1 h3 with h | h
      · rw [h]
        rcases Int.le_total x y with h4 | h4
        · rw [Int.min_eq_left h4]; simp
        · rw [Int.min_eq_right h4]; simp
      · simp [h]
theorem candL_spec {q : Int} {l : List Int} (h : l ≠ []) : candL q l ∈ l ∧ ∀ y ∈ l, candL q l ≤ y := by
  match l, h with
  | x :: l, _ =>
    obtain ⟨h1, h2, h3⟩ := foldl_min_le l x
    exact ⟨h3, fun y hy => by rcases List.mem_cons.1 hy with rfl | hy; exact h1; exact h2 y hy⟩

/-- The number that the next page gets. -/
def cand (s : PgS) : Int := candL s.pages s.spare
def mkE (s : PgS) (k n : Int) (t : ByteArray) : Int := if sealE (cand s) k n t.size ≠ 0 then sealE (cand s) k n t.size else if s.spare = [] ∧ s.pages = s.dev.most then 10 else 0
def mkS (s : PgS) (k n : Int) (t : ByteArray) : PgS := if s.spare = [] then keptS { s with pages := s.pages + 1, dev := longer s.dev 1 } s.pages ⟨1, k, n, t⟩ else keptS { s with spare := s.spare.erase (cand s) } (cand s) ⟨1, k, n, t⟩
def mkT (s : PgS) (k n : Int) (t : ByteArray) : PgS := if mkE s k n t = 0 then mkS s k n t else s
def mkI (s : PgS) (k n : Int) (t : ByteArray) : Int := if mkE s k n t = 0 then cand s else 0
def drS (s : PgS) (x : Int) : PgS := { keptS s x (chg0 3) with spare := x :: s.spare }
def rdE (s : PgS) (x : Int) : Int := if x < 2 ∨ s.pages ≤ x then 3 else if (s.H x).fate = 1 then 0 else 7

structure Yg (s : PgS) : Prop where
  l : s.l = []
  there : s.there = 2
  idle : Idle s.dev
  cap : s.dev.cap = 0
  len : s.pages = s.dev.pages.length
  lo : 2 ≤ s.pages
  most : s.pages ≤ s.dev.most
  few : s.dev.most ≤ 3000
  ins : ∀ x, 2 ≤ x → x < s.pages → (s.H x).fate = 1 ∨ (s.H x).fate = 3
  out : ∀ x, x < 2 ∨ s.pages ≤ x → (s.H x).fate = 0
  spare : ∀ x, x ∈ s.spare ↔ (s.H x).fate = 3
  nodup : s.spare.Nodup
  count : s.spare.length ≤ s.n
  sealed : ∀ x, (s.H x).fate = 1 → sealE x (s.H x).kind (s.H x).next (s.H x).body.size = 0

theorem Yg.place {s : PgS} (h : Yg s) {x : Int} (hf : (s.H x).fate = 1 ∨ (s.H x).fate = 3) : 2 ≤ x ∧ x < s.pages := by
  by_cases c : x < 2 ∨ s.pages ≤ x
  · have := h.out x c
    omega
  · omega
theorem Yg.body {s : PgS} (h : Yg s) {x : Int} (hf : (s.H x).fate = 1) : (s.H x).body.size ≤ 240 ∧ 0 ≤ (s.H x).next ∧ (s.H x).next < 4294967296 ∧ 1 ≤ (s.H x).kind ∧ (s.H x).kind < 256 := by
  have h1 := h.sealed x hf
  unfold sealE at h1
  split at h1
  · rename_i h2
    unfold SealOK at h2
    split at h1 <;> omega
  · omega
theorem Yg.rd {s : PgS} (h : Yg s) (x : Int) : (rdE s x = 0 ∧ (s.H x).fate = 1 ∧ 2 ≤ x ∧ x < s.pages) ∨ (rdE s x = 3 ∧ (x < 2 ∨ s.pages ≤ x)) ∨ (rdE s x = 7 ∧ (s.H x).fate = 3 ∧ 2 ≤ x ∧ x < s.pages) := by
  unfold rdE
  by_cases c : x < 2 ∨ s.pages ≤ x
  · rw [if_pos c]; exact .inr (.inl ⟨rfl, c⟩)
  · rw [if_neg c]
    rcases h.ins x (by omega) (by omega) with f | f
    · rw [if_pos f]; exact .inl ⟨rfl, f, by omega, by omega⟩
    · rw [if_neg (by omega)]; exact .inr (.inr ⟨rfl, f, by omega, by omega⟩)
theorem Yg.cnd {s : PgS} (h : Yg s) : 2 ≤ cand s ∧ cand s ≤ s.pages ∧ (s.spare ≠ [] → cand s < s.pages ∧ (s.H (cand s)).fate = 3) ∧ (s.spare = [] → cand s = s.pages) := by
  by_cases c : s.spare = []
  · have : cand s = s.pages := by unfold cand; rw [c]; rfl
    have := h.lo
    exact ⟨by omega, by omega, fun h => absurd c h, fun _ => by omega⟩
  · have h1 : cand s ∈ s.spare := (candL_spec (q := s.pages) c).1
    have h2 := (h.spare _).1 h1
    have h3 := h.place (.inr h2)
    exact ⟨h3.1, by omega, fun _ => ⟨h3.2, h2⟩, fun e => absurd e c⟩

theorem Yg.made {s : PgS} (h : Yg s) {k n : Int} {t : ByteArray} (hm : mkE s k n t = 0) : Yg (mkS s k n t) := by
  obtain ⟨a1, a2, a3, a4⟩ := h.cnd
  unfold mkE at hm
  have hse : sealE (cand s) k n t.size = 0 := by
    by_cases c : sealE (cand s) k n t.size = 0
    · exact c
    · rw [if_pos c] at hm; exact hm
  rw [if_neg (by rw [hse]; simp)] at hm
  have hroom : ¬ (s.spare = [] ∧ s.pages = s.dev.most) := by
    intro c
    rw [if_pos c] at hm
    omega
  have hmost := h.most
  unfold mkS
  by_cases c : s.spare = []
  · rw [if_pos c]
    have hq := a4 c
    rw [hq] at hse
    refine ⟨h.l, h.there, longer_idle h.idle 1, h.cap, ?_, by show 2 ≤ s.pages + 1; omega, by show s.pages + 1 ≤ s.dev.most; have : ¬ s.pages = s.dev.most := fun e => hroom ⟨c, e⟩; omega, h.few, fun x h2 h3 => ?_, fun x hx => ?_, fun x => ?_, by rw [show (keptS { s with pages := s.pages + 1, dev := longer s.dev 1 } s.pages ⟨1, k, n, t⟩).spare = s.spare from rfl]; exact h.nodup, Nat.le_succ_of_le h.count, fun x hx => ?_⟩
    · show s.pages + 1 = ((longer s.dev 1).pages.length : Int)
      rw [longer_len, h.len]
      omega
    · show ((upd s.H s.pages _) x).fate = 1 ∨ ((upd s.H s.pages _) x).fate = 3
      by_cases e : x = s.pages
      · rw [e, upd_same]; exact .inl rfl
      · rw [upd_other _ _ e]
        exact h.ins x h2 (by have h3' : x < s.pages + 1 := h3; omega)
    · show ((upd s.H s.pages _) x).fate = 0
      have hx' : x < 2 ∨ s.pages + 1 ≤ x := hx
      rw [upd_other _ _ (by omega)]
      exact h.out x (by omega)
    · show x ∈ s.spare ↔ ((upd s.H s.pages _) x).fate = 3
      by_cases e : x = s.pages
      · rw [e, upd_same, h.spare, h.out _ (.inr (Int.le_refl _))]
        simp
      · rw [upd_other _ _ e]
        exact h.spare x
    · have hx' : ((upd s.H s.pages (⟨1, k, n, t⟩ : Chg)) x).fate = 1 := hx
      show sealE x ((upd s.H s.pages (⟨1, k, n, t⟩ : Chg)) x).kind ((upd s.H s.pages (⟨1, k, n, t⟩ : Chg)) x).next ((upd s.H s.pages (⟨1, k, n, t⟩ : Chg)) x).body.size = 0
      by_cases e : x = s.pages
      · rw [e, upd_same]; exact hse
      · rw [upd_other _ _ e] at hx' ⊢
        exact h.sealed x hx'
  · rw [if_neg c]
    obtain ⟨b1, b2⟩ := a3 c
    generalize hcc : cand s = y at *
    refine ⟨h.l, h.there, h.idle, h.cap, h.len, h.lo, h.most, h.few, fun x h2 h3 => ?_, fun x hx => ?_, fun x => ?_, h.nodup.erase _, Nat.le_succ_of_le (Nat.le_trans (List.length_erase_le ..) h.count), fun x hx => ?_⟩
    · show ((upd s.H y _) x).fate = 1 ∨ ((upd s.H y _) x).fate = 3
      by_cases e : x = y
      · rw [e, upd_same]; exact .inl rfl
      · rw [upd_other _ _ e]
        exact h.ins x h2 h3
    · show ((upd s.H y _) x).fate = 0
      have hx' : x < 2 ∨ s.pages ≤ x := hx
      rw [upd_other _ _ (by omega)]
      exact h.out x hx'
    · show x ∈ s.spare.erase y ↔ ((upd s.H y _) x).fate = 3
      by_cases e : x = y
      · rw [e, upd_same]
        simp only [h.nodup.mem_erase_iff]
        simp
      · rw [upd_other _ _ e, h.nodup.mem_erase_iff]
        exact ⟨fun hh => (h.spare x).1 hh.2, fun hh => ⟨e, (h.spare x).2 hh⟩⟩
    · have hx' : ((upd s.H y (⟨1, k, n, t⟩ : Chg)) x).fate = 1 := hx
      show sealE x ((upd s.H y (⟨1, k, n, t⟩ : Chg)) x).kind ((upd s.H y (⟨1, k, n, t⟩ : Chg)) x).next ((upd s.H y (⟨1, k, n, t⟩ : Chg)) x).body.size = 0
      by_cases e : x = y
      · rw [e, upd_same]; exact hse
      · rw [upd_other _ _ e] at hx' ⊢
        exact h.sealed x hx'

theorem Yg.dropped {s : PgS} (h : Yg s) {x : Int} (hf : (s.H x).fate = 1) : Yg (drS s x) := by
  have hp := h.place (.inl hf)
  refine ⟨h.l, h.there, h.idle, h.cap, h.len, h.lo, h.most, h.few, fun y h2 h3 => ?_, fun y hy => ?_, fun y => ?_, ?_, Nat.succ_le_succ h.count, fun y hy => ?_⟩
  · show ((upd s.H x _) y).fate = 1 ∨ ((upd s.H x _) y).fate = 3
    by_cases e : y = x
    · rw [e, upd_same]; exact .inr rfl
    · rw [upd_other _ _ e]; exact h.ins y h2 h3
  · show ((upd s.H x _) y).fate = 0
    have hy' : y < 2 ∨ s.pages ≤ y := hy
    rw [upd_other _ _ (by omega)]
    exact h.out y hy'
  · show y ∈ x :: s.spare ↔ ((upd s.H x _) y).fate = 3
    by_cases e : y = x
    · rw [e, upd_same]; simp [chg0]
    · rw [upd_other _ _ e, List.mem_cons]
      simp only [e, false_or]
      exact h.spare y
  · show (x :: s.spare).Nodup
    exact List.nodup_cons.2 ⟨fun hm => by have := (h.spare x).1 hm; omega, h.nodup⟩
  · have hy' : ((upd s.H x (chg0 3)) y).fate = 1 := hy
    show sealE y ((upd s.H x (chg0 3)) y).kind ((upd s.H x (chg0 3)) y).next ((upd s.H x (chg0 3)) y).body.size = 0
    by_cases e : y = x
    · rw [e, upd_same] at hy'; simp [chg0] at hy'
    · rw [upd_other _ _ e] at hy' ⊢
      exact h.sealed y hy'

section
variable {p pd pf b : Nat} {s : PgS} {F : List Nat} {w : World}

theorem gmake_y (k n : Int) (t : ByteArray) (hy : Yg s) (hk : IsInt k) (hn : IsInt n) (hs : t.size ≤ 281474976710656) (hc : s.n < 1000000) (h : PgIs p pd pf b s F w) :
    Calls Tryz.prog 34 #[.pointer (some ⟨p, 0, none⟩), .agg #[.int .i64 k, .int .i64 n, .string t]] w fun e w' => e = .returned (.tuple #[.int .i64 (mkI s k n t), .int .i64 (mkE s k n t)]) ∧ ∃ F', PgIs p pd pf b (mkT s k n t) F' w' ∧ Goes F w F' w' := by
  obtain ⟨a1, a2, a3, a4⟩ := hy.cnd
  have hmo := hy.most
  have hfew := hy.few
  have hlo := hy.lo
  have hic : IsInt (cand s) := by unfold IsInt; omega
  have hsl : s.spare.length ≤ 1000000 := by have := hy.count; omega
  by_cases c : s.spare = []
  · have hq := a4 c
    rw [hq] at hic
    by_cases hse : sealE (cand s) k n t.size = 0
    · by_cases hm : s.pages = s.dev.most
      · have e1 : mkE s k n t = 10 := by unfold mkE; rw [if_neg (by rw [hse]; simp), if_pos ⟨c, hm⟩]
        have e2 : mkI s k n t = 0 := by unfold mkI; rw [e1]; rfl
        have e3 : mkT s k n t = s := by unfold mkT; rw [e1]; rfl
        rw [e1, e2, e3]
        rw [hq] at hse
        exact gmake_ext k n t c hy.l h (fun w1 hp1 => gextend_full k n t hy.len hm hy.idle hic hk hn hs hse hp1)
      · have e1 : mkE s k n t = 0 := by unfold mkE; rw [if_neg (by rw [hse]; simp), if_neg (fun e => hm e.2)]
        have e2 : mkI s k n t = s.pages := by unfold mkI; rw [if_pos e1, hq]
        have e3 : mkT s k n t = keptS { s with pages := s.pages + 1, dev := longer s.dev 1 } s.pages ⟨1, k, n, t⟩ := by unfold mkT mkS; rw [if_pos e1, if_pos c]
        rw [e1, e2, e3]
        rw [hq] at hse
        exact gmake_ext k n t c hy.l h (fun w1 hp1 => gextend_grow k n t hy.len (by omega) hy.idle hic hk hn hs hse hc hp1)
    · have e1 : mkE s k n t = sealE s.pages k n t.size := by unfold mkE; rw [if_pos hse, hq]
      rw [hq] at hse
      have e2 : mkI s k n t = 0 := by unfold mkI; rw [e1, if_neg hse]
      have e3 : mkT s k n t = s := by unfold mkT; rw [e1, if_neg hse]
      rw [e1, e2, e3]
      exact gmake_ext (s' := s) (id := 0) (r := sealE s.pages k n t.size) k n t c hy.l h (fun w1 hp1 => (gextend_bad k n t hic hk hn hs hse hp1).mono fun e w' he => ⟨he.1, _, hp1.below he.2, goes_below he.2⟩)
  · obtain ⟨b1, b2⟩ := candL_spec (q := s.pages) c
    have hper : s.spare.Perm (cand s :: s.spare.erase (cand s)) := List.perm_cons_erase b1
    have hle : ∀ y ∈ s.spare.erase (cand s), cand s ≤ y := fun y hy => b2 y (List.mem_of_mem_erase hy)
    by_cases hse : sealE (cand s) k n t.size = 0
    · have e1 : mkE s k n t = 0 := by unfold mkE; rw [if_neg (by rw [hse]; simp), if_neg (fun e => c e.1)]
      have e2 : mkI s k n t = cand s := by unfold mkI; rw [if_pos e1]
      have e3 : mkT s k n t = keptS { s with spare := s.spare.erase (cand s) } (cand s) ⟨1, k, n, t⟩ := by unfold mkT mkS; rw [if_pos e1, if_neg c]
      rw [e1, e2, e3]
      exact gmake_spare k n t hper hle hic hk hn hs hse hc h
    · have e1 : mkE s k n t = sealE (cand s) k n t.size := by unfold mkE; rw [if_pos hse]
      have e2 : mkI s k n t = 0 := by unfold mkI; rw [e1, if_neg hse]
      have e3 : mkT s k n t = s := by unfold mkT; rw [e1, if_neg hse]
      rw [e1, e2, e3]
      exact gmake_spare_bad k n t hper hle hic hk hn hs hse hsl h

theorem gdrop_y (x : Int) (hy : Yg s) (hf : (s.H x).fate = 1) (hc : s.n < 1000000) (h : PgIs p pd pf b s F w) :
    Calls Tryz.prog 119 #[.pointer (some ⟨p, 0, none⟩), .int .i64 x] w fun e w' => e = .returned (.int .i64 0) ∧ ∃ F', PgIs p pd pf b (drS s x) F' w' ∧ Goes F w F' w' := by
  have hp := hy.place (.inl hf)
  have hb := hy.body hf
  have := hy.most
  have := hy.few
  exact gdrop_beyond x hp.1 hp.2 hf (by omega) (by rw [hy.there]; exact hp.1) (by unfold IsInt; omega) hc (Nat.lt_of_le_of_lt hy.count hc) h

theorem gread_y (x : Int) (hx : IsInt x) (hy : Yg s) (h : PgIs p pd pf b s F w) :
    Calls Tryz.prog 39 #[.pointer (some ⟨p, 0, none⟩), .int .i64 x] w fun e w' => ((rdE s x = 0 ∧ (s.H x).fate = 1 ∧ e = .returned (.tuple #[.agg #[.int .i64 (s.H x).kind, .int .i64 (s.H x).next, .string (s.H x).body], .int .i64 0])) ∨
      (rdE s x ≠ 0 ∧ e = .returned (.tuple #[.agg #[.int .i64 0, .int .i64 0, .string ⟨#[]⟩], .int .i64 (rdE s x)]))) ∧ Below w.heap.size w w' := by
  rcases hy.rd x with ⟨h1, h2, h3, h4⟩ | ⟨h1, h2⟩ | ⟨h1, h2, h3, h4⟩
  · have hb := hy.body h2
    exact (gread_made x h3 h4 hx h2 (by omega) h).mono fun e w' he => ⟨.inl ⟨h1, h2, he.1⟩, he.2⟩
  · rw [h1]
    exact (gread_out x h2 h).mono fun e w' he => ⟨.inr ⟨by decide, he.1⟩, he.2⟩
  · rw [h1]
    exact (gread_gone x h3 h4 hx (.inr h2) h).mono fun e w' he => ⟨.inr ⟨by decide, he.1⟩, he.2⟩
end


theorem Yg.new (most : Int) (h1 : 2 ≤ most) (h2 : most ≤ 3000) : Yg (newPg (longer (newS most) 2) [] 0 [] [] 2 1) where
  l := rfl
  there := rfl
  idle := longer_idle (newS_idle most) 2
  cap := rfl
  len := by show (2 : Int) = _; unfold newPg; simp only [longer_new_len]; rfl
  lo := by show (2 : Int) ≤ 2; omega
  most := h1
  few := h2
  ins := fun x a c => by have c' : x < 2 := c; omega
  out := fun x _ => rfl
  spare := fun x => by show x ∈ ([] : List Int) ↔ (0 : Int) = 3; simp
  nodup := List.nodup_nil
  count := Nat.le_refl _
  sealed := fun x h => by have h' : (0 : Int) = 1 := h; omega
end Go.Proofs.YtpoocbkligjgbaaGreatDoor
