/-
  What stands in a tree's pages, as functions of what a pager is: a page opened, and the way down to a key.
-/
import Derived.Test.YtpoocbkligjgbaaGreatDoorMg19
import Derived.Test.YtpoocbkligjgbaaGreatDoorMg21
namespace Go.Proofs.YtpoocbkligjgbaaGreatDoor
open Go.RowKit Go.Sort Go.Lib

/-- What stands in a page: a leaf's items, or a branch's children. -/
structure Nd where
  items : List Itm
  kids : List BR.Chd

/-- The items, or the children, that some bytes are. -/
noncomputable def leafOf (b : List UInt8) : Option (List Itm) := by
  classical
  exact if h : ∃ l, IsLeaf b l then some h.choose else none
noncomputable def brOf (b : List UInt8) : Option (List BR.Chd) := by
  classical
  exact if h : ∃ l, BR.IsLeaf b l then some h.choose else none
theorem leafOf_some {b : List UInt8} {l : List Itm} (h : IsLeaf b l) : leafOf b = some l := by
  have he : ∃ l, IsLeaf b l := ⟨l, h⟩
  unfold leafOf
  rw [dif_pos he]
  have h2 := he.choose_spec
  exact congrArg some (leafB_inj h2.1.1 h.1.1 (h2.2.2.trans h.2.2.symm))
theorem leafOf_none {b : List UInt8} (h : ∀ l, ¬ IsLeaf b l) : leafOf b = none := by
  unfold leafOf
  rw [dif_neg fun ⟨l, hl⟩ => h l hl]
theorem leafOf_is {b : List UInt8} {l : List Itm} (h : leafOf b = some l) : IsLeaf b l := by
  unfold leafOf at h
  split at h
  · rename_i he
    have h2 := he.choose_spec
    have h3 : he.choose = l := by simpa using h
    rw [h3] at h2
    exact h2
  · exact absurd h (by simp)
theorem brOf_some {b : List UInt8} {l : List BR.Chd} (h : BR.IsLeaf b l) : brOf b = some l := by
  have he : ∃ l, BR.IsLeaf b l := ⟨l, h⟩
  unfold brOf
  rw [dif_pos he]
  have h2 := he.choose_spec
  exact congrArg some (BR.leafB_inj h2.1.2.1 h.1.2.1 (h2.2.2.trans h.2.2.symm))
theorem brOf_none {b : List UInt8} (h : ∀ l, ¬ BR.IsLeaf b l) : brOf b = none := by
  unfold brOf
  rw [dif_neg fun ⟨l, hl⟩ => h l hl]
theorem brOf_is {b : List UInt8} {l : List BR.Chd} (h : brOf b = some l) : BR.IsLeaf b l := by
  unfold brOf at h
  split at h
  · rename_i he
    have h2 := he.choose_spec
    have h3 : he.choose = l := by simpa using h
    rw [h3] at h2
    exact h2
  · exact absurd h (by simp)

/-- A page of that kind and body, opened; whether it may stand so many levels down; loaded. -/
noncomputable def opn (k : Int) (t : ByteArray) : Option Nd :=
  if k = 2 then (leafOf t.data.toList).map (fun l => ⟨l, []⟩) else if k = 3 then (brOf t.data.toList).map (fun l => ⟨[], l⟩) else none
def may (n : Nd) (lv : Nat) : Prop := if n.kids.length = 0 then (lv = 1 ∨ 0 < n.items.length) else (lv < 30 ∧ (lv ≠ 1 ∨ 1 < n.kids.length))
instance (n : Nd) (lv : Nat) : Decidable (may n lv) := by unfold may; exact inferInstance
noncomputable def ldO (k nx : Int) (t : ByteArray) (lv : Nat) : Option Nd := (opn k t).bind fun n => if nx = 0 ∧ may n lv then some n else none
noncomputable def ldN (s : PgS) (id : Int) (lv : Nat) : Option Nd := if rdE s id = 0 then ldO (s.H id).kind (s.H id).next (s.H id).body lv else none
noncomputable def ldE (s : PgS) (id : Int) (lv : Nat) : Int := if rdE s id ≠ 0 then rdE s id else if ldO (s.H id).kind (s.H id).next (s.H id).body lv = none then 15 else 0
/-- What an opened page is. -/
structure NdOK (n : Nd) : Prop where
  leaf : n.kids = [] → OKL n.items ∧ sz n.items ≤ 240
  branch : n.kids ≠ [] → BR.OKL n.kids ∧ BR.sz n.kids ≤ 240 ∧ n.items = []
theorem opn_ok {k : Int} {t : ByteArray} {n : Nd} (h : opn k t = some n) : NdOK n := by
  unfold opn at h
  split at h
  · obtain ⟨l, hl, rfl⟩ := Option.map_eq_some_iff.1 h
    have h2 := leafOf_is hl
    exact ⟨fun _ => ⟨h2.1, h2.2.1⟩, fun h => absurd rfl h⟩
  · split at h
    · obtain ⟨l, hl, rfl⟩ := Option.map_eq_some_iff.1 h
      have h2 := brOf_is hl
      exact ⟨fun h => by
        have h3 : l = [] := h
        have := h2.1.pos
        rw [h3] at this
        exact absurd this (by simp), fun _ => ⟨h2.1, h2.2.1, rfl⟩⟩
    · exact absurd h (by simp)
theorem ldO_ok {k nx : Int} {t : ByteArray} {lv : Nat} {n : Nd} (h : ldO k nx t lv = some n) : NdOK n ∧ may n lv ∧ nx = 0 ∧ opn k t = some n := by
  unfold ldO at h
  obtain ⟨m, hm, h2⟩ := Option.bind_eq_some_iff.1 h
  split at h2
  · rename_i c
    obtain rfl : m = n := by simpa using h2
    exact ⟨opn_ok hm, c.2, c.1, hm⟩
  · exact absurd h2 (by simp)
theorem ldN_ok {s : PgS} {id : Int} {lv : Nat} {n : Nd} (h : ldN s id lv = some n) : NdOK n ∧ may n lv ∧ rdE s id = 0 ∧ (s.H id).next = 0 ∧ opn (s.H id).kind (s.H id).body = some n := by
  unfold ldN at h
  split at h
  · rename_i hr
    obtain ⟨h1, h2, h3, h4⟩ := ldO_ok h
    exact ⟨h1, h2, hr, h3, h4⟩
  · exact absurd h (by simp)
theorem ldN_none {s : PgS} {id : Int} {lv : Nat} (h : ldN s id lv = none) : ldE s id lv ≠ 0 := by
  unfold ldE
  unfold ldN at h
  split at h
  · rename_i hr
    rw [if_neg (by rw [hr]; simp), if_pos h]
    decide
  · rename_i hr
    rw [if_pos hr]
    exact hr
theorem leaf_few {l : List Itm} (h : OKL l) (hs : sz l ≤ 240) : l.length ≤ 120 := by
  have : ∀ l : List Itm, (∀ x ∈ l, rightB x = true) → 2 * l.length ≤ sz l := by
    intro l
    induction l with
    | nil => intro _; simp [sz, leafB]
    | cons a l ih =>
      intro h
      rw [sz_cons]
      have := (right_len (h a (by simp))).2
      have := ih fun x hx => h x (by simp [hx])
      simp
      omega
  have := this l h.1
  omega
theorem br_few {l : List BR.Chd} (hs : BR.sz l ≤ 240) : l.length ≤ 120 := by
  have : ∀ l : List BR.Chd, 2 * l.length ≤ BR.sz l := by
    intro l
    induction l with
    | nil => simp [BR.sz, BR.leafB]
    | cons a l ih =>
      rw [BR.sz_cons]
      have := BR.item_two a
      simp
      omega
  have := this l
  omega

/-- A branch on a way down, and the place of the child to which the way goes on. -/
structure Stp where
  page : Int
  kids : List BR.Chd
  place : Nat
/-- A way down: the error, the branches, the leaf, and its items. -/
structure Wy where
  e : Int
  steps : List Stp
  page : Int
  items : List Itm
def kidAt (l : List BR.Chd) (i : Nat) : BR.Chd := l.getD i ⟨⟨#[]⟩, 0⟩
noncomputable def dnGo (s : PgS) (key : ByteArray) : Nat → Nat → Int → List Stp → Wy
  | 0, _, _, _ => ⟨15, [], 0, []⟩
  | f + 1, lv, id, acc => match ldN s id lv with
    | none => ⟨ldE s id lv, [], 0, []⟩
    | some n => if n.kids.length = 0 then ⟨0, acc, id, n.items⟩ else dnGo s key f (lv + 1) (kidAt n.kids (BR.fnd n.kids key)).page (acc ++ [⟨id, n.kids, BR.fnd n.kids key⟩])
noncomputable def dn (s : PgS) (root : Int) (key : ByteArray) : Wy := dnGo s key 30 1 root []
theorem fnd_lt {l : List BR.Chd} (h : 0 < l.length) (k : ByteArray) : BR.fnd l k < l.length := by
  have := BR.fnd_le l k
  omega
end Go.Proofs.YtpoocbkligjgbaaGreatDoor
