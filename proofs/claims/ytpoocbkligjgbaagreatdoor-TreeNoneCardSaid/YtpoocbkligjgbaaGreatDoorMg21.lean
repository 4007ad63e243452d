/-
  Plain mathematics: what is laid is read as it was. A leaf's items as bytes, there and back. (No walk.) A branch's children as lists: the order of keys, below which child a key stands, what is put in the place of one. (No walk.) A branch's children as bytes, there and back. (No walk.) How a list of items lies in memory, four cells each. A []string of the call's own, and append of one text to it. strings.Builder at this program: copyCheck, WriteString (the kit's layings of both do not fit here). strings.Builder at this program, beside other objects, which stay.
-/
import Derived.Test.YtpoocbkligjgbaaGreatDoorMg20
import Derived.Test.YtpoocbkligjgbaaGreatDoorMg7
import Derived.Test.YtpoocbkligjgbaaGreatDoorMg3
import Derived.Test.YtpoocbkligjgbaaGreatDoorMg1
import Derived.Lib.Builder
import Derived.Laws.Externs
namespace Go.Proofs.YtpoocbkligjgbaaGreatDoor
open Go.Lib

theorem unzig_zig {v : Int} : unzig (zigzag v) = v := by
  unfold unzig zigzag
  by_cases h : 0 ≤ v
  · rw [if_pos h, if_neg (by omega)]; omega
  · rw [if_neg h, if_pos (by omega)]; omega

theorem rvar_laid {v : Int} (h : IsInt v) (rest : List UInt8) : rvar (uvarint (zigzag v) ++ rest) = (v, rest, 0) := by
  have hg := gscan_laid v h.1 h.2 rest
  unfold rvar
  rw [hg, if_pos rfl, unzig_zig, List.drop_left]

theorem rcount_laid {n : Nat} {most : Int} (h : (n : Int) ≤ most) (hi : n ≤ 9223372036854775807) (rest : List UInt8) : rcount most (uvarint (zigzag (n : Int)) ++ rest) = ((n : Int), rest, 0) := by
  have hr := rvar_laid (v := (n : Int)) ⟨by omega, by omega⟩ rest
  unfold rcount
  rw [hr, if_neg (by simp), if_neg (by simp), if_neg (by simp; omega)]

theorem rtext_laid {s : ByteArray} {most : Int} (h : (s.size : Int) ≤ most) (hi : s.size ≤ 9223372036854775807) (rest : List UInt8) : rtext most (textB s ++ rest) = (s.data.toList, rest, 0) := by
  have hc := rcount_laid h hi (s.data.toList ++ rest)
  rw [← List.append_assoc, ← textB] at hc
  have hl : s.data.toList.length = s.size := by simp
  unfold rtext
  rw [hc, if_neg (by simp), if_neg (by simp; omega), Int.toNat_natCast, ← hl, List.take_left, List.drop_left]

theorem rbool_laid (b : Bool) (rest : List UInt8) : rbool ((if b then 1 else 0) :: rest) = (b, rest, 0) := by
  cases b <;> simp [rbool]



end Go.Proofs.YtpoocbkligjgbaaGreatDoor

namespace Go.Proofs.YtpoocbkligjgbaaGreatDoor
open Go.RowKit Go.Lib

/-- The bytes of an item, of items; how many. -/
def itemB (x : Itm) : List UInt8 := textB x.key ++ ((if x.over = 0 then 0 else 1) :: (if x.over = 0 then textB x.val else varsB [x.over, x.size]))
def leafB (l : List Itm) : List UInt8 := l.flatMap itemB
def sz (l : List Itm) : Nat := (leafB l).length

/-- A right item. -/
def rightB (x : Itm) : Bool :=
  decide (1 ≤ x.key.size ∧ x.key.size ≤ 40) && if x.over = 0 then decide (x.size = 0 ∧ x.val.size ≤ 60) else decide (0 < x.over ∧ x.over ≤ 4294967295 ∧ 60 < x.size ∧ x.size ≤ 2000 ∧ x.val = ⟨#[]⟩)
def OKL (l : List Itm) : Prop := (∀ x ∈ l, rightB x = true) ∧ Rise l
instance (l : List Itm) : Decidable (OKL l) := by unfold OKL Rise; exact inferInstance
def putE (l : List Itm) : Int := if OKL l then (if sz l ≤ 240 then 0 else 2) else 1
def putB (l : List Itm) : List UInt8 := if OKL l ∧ sz l ≤ 240 then leafB l else []

theorem leafB_append (l m : List Itm) : leafB (l ++ m) = leafB l ++ leafB m := by simp [leafB]
theorem sz_append (l m : List Itm) : sz (l ++ m) = sz l + sz m := by simp [sz, leafB_append]
theorem sz_cons (x : Itm) (l : List Itm) : sz (x :: l) = (itemB x).length + sz l := by simp [sz, leafB]
theorem leafB_snoc (l : List Itm) (x : Itm) : leafB (l ++ [x]) = leafB l ++ itemB x := by simp [leafB]
theorem sz_snoc (l : List Itm) (x : Itm) : sz (l ++ [x]) = sz l + (itemB x).length := by simp [sz, leafB]
theorem sz_take (l : List Itm) (k : Nat) : sz (l.take k) ≤ sz l ∧ sz l = sz (l.take k) + sz (l.drop k) := by
  have : sz l = sz (l.take k) + sz (l.drop k) := by rw [← sz_append, List.take_append_drop]
  omega
theorem uv_pos (u : Nat) : 0 < (uvarint u).length := by
  by_cases h : u < 128
  · rw [uvarint_small h]; simp
  · rw [uvarint_big (by omega)]; simp
theorem textB_len (s : ByteArray) : s.size + 1 ≤ (textB s).length := by
  have := uv_pos (zigzag (s.size : Int))
  unfold textB
  rw [List.length_append]
  have h2 : s.data.toList.length = s.size := by simp
  omega
theorem textB_small {s : ByteArray} (h : s.size ≤ 63) : (textB s).length = s.size + 1 := by
  have h1 : zigzag (s.size : Int) < 128 := by unfold zigzag; rw [if_pos (by omega)]; omega
  have h2 : s.data.toList.length = s.size := by simp
  unfold textB
  rw [uvarint_small h1, List.length_append, h2, List.length_singleton]
  omega
theorem uv_len {u n : Nat} (h : u < 128 ^ n) (hn : 0 < n) : (uvarint u).length ≤ n := by
  induction n generalizing u with
  | zero => omega
  | succ n ih =>
    by_cases hu : u < 128
    · rw [uvarint_small hu]; simp
    · rw [uvarint_big (by omega)]
      have h1 : u / 128 < 128 ^ n := Nat.div_lt_of_lt_mul (by rw [Nat.pow_succ] at h; omega)
      have h2 : 0 < n := by
        rcases Nat.eq_zero_or_pos n with rfl | h3
        · simp at h; omega
        · exact h3
      have := ih h1 h2
      simp
      omega
theorem right_cases {x : Itm} (h : rightB x = true) : 1 ≤ x.key.size ∧ x.key.size ≤ 40 ∧ ((x.over = 0 ∧ x.size = 0 ∧ x.val.size ≤ 60) ∨ (0 < x.over ∧ x.over ≤ 4294967295 ∧ 60 < x.size ∧ x.size ≤ 2000 ∧ x.val = ⟨#[]⟩)) := by
  unfold rightB at h
  rw [Bool.and_eq_true, decide_eq_true_eq] at h
  obtain ⟨⟨h1, h2⟩, h3⟩ := h
  refine ⟨h1, h2, ?_⟩
  split at h3
  · rename_i h4
    have h5 := of_decide_eq_true h3
    exact .inl ⟨h4, h5.1, h5.2⟩
  · exact .inr (of_decide_eq_true h3)
/-- A right item has at most 103 bytes. -/
theorem right_len {x : Itm} (h : rightB x = true) : (itemB x).length ≤ 103 ∧ 2 ≤ (itemB x).length := by
  obtain ⟨h1, h2, h3⟩ := right_cases h
  have hk := textB_small (s := x.key) (by omega)
  unfold itemB
  rcases h3 with ⟨h4, h5, h6⟩ | ⟨h4, h5, h6, h7, h8⟩
  · rw [if_pos h4, if_pos h4]
    have hv := textB_small (s := x.val) (by omega)
    simp only [List.length_append, List.length_cons, hk, hv]
    omega
  · rw [if_neg (by omega), if_neg (by omega)]
    have e1 : (uvarint (zigzag x.over)).length ≤ 5 := uv_len (by unfold zigzag; rw [if_pos (by omega)]; have : (128 : Nat) ^ 5 = 34359738368 := by decide
                                                                 omega) (by omega)
    have e2 : (uvarint (zigzag x.size)).length ≤ 2 := uv_len (by unfold zigzag; rw [if_pos (by omega)]; have : (128 : Nat) ^ 2 = 16384 := by decide
                                                                 omega) (by omega)
    simp only [List.length_append, List.length_cons, hk, varsB, List.flatMap_cons, List.flatMap_nil, List.length_nil]
    omega
theorem right_sz {l : List Itm} (h : ∀ x ∈ l, rightB x = true) : sz l ≤ 103 * l.length := by
  induction l with
  | nil => simp [sz, leafB]
  | cons x l ih =>
    have h1 := (right_len (h x (by simp))).1
    have h2 := ih (fun y hy => h y (by simp [hy]))
    rw [sz_cons, List.length_cons]
    omega
theorem right_ok {x : Itm} (h : rightB x = true) : x.ok := by
  obtain ⟨h1, h2, h3⟩ := right_cases h
  unfold Itm.ok IsInt
  rcases h3 with ⟨h4, h5, h6⟩ | ⟨h4, h5, h6, h7, h8⟩
  · omega
  · have h9 : x.val.size = 0 := by rw [h8]; rfl
    omega

def getItem (b : List UInt8) : Itm × List UInt8 × Int :=
  let k := rtext 40 b
  if k.2.2 ≠ 0 then (⟨⟨#[]⟩, ⟨#[]⟩, 0, 0⟩, k.2.1, k.2.2) else
  let e := rbool k.2.1
  if e.2.2 ≠ 0 then (⟨⟨k.1.toArray⟩, ⟨#[]⟩, 0, 0⟩, e.2.1, e.2.2) else
  if e.1 = true then
    let o := rvar e.2.1
    if o.2.2 ≠ 0 then (⟨⟨k.1.toArray⟩, ⟨#[]⟩, 0, 0⟩, o.2.1, o.2.2) else
    let s := rvar o.2.1
    (⟨⟨k.1.toArray⟩, ⟨#[]⟩, o.1, s.1⟩, s.2.1, s.2.2)
  else
    let v := rtext 60 e.2.1
    (⟨⟨k.1.toArray⟩, ⟨v.1.toArray⟩, 0, 0⟩, v.2.1, v.2.2)

theorem eta2 (x : ByteArray) : (⟨x.data.toList.toArray⟩ : ByteArray) = x := by
  apply ByteArray.ext
  simp
/-- What Put lays of a right item is read as it was. -/
theorem getItem_laid {x : Itm} (h : rightB x = true) (rest : List UInt8) : getItem (itemB x ++ rest) = (x, rest, 0) := by
  obtain ⟨h1, h2, h3⟩ := right_cases h
  unfold itemB
  rw [List.append_assoc]
  have hk := rtext_laid (s := x.key) (most := 40) (by omega) (by omega)
  rcases h3 with ⟨h4, h5, h6⟩ | ⟨h4, h5, h6, h7, h8⟩
  · rw [if_pos h4, if_pos h4]
    have hb := rbool_laid false (textB x.val ++ rest)
    have hv := rtext_laid (s := x.val) (most := 60) (by omega) (by omega) rest
    simp only [Bool.false_eq_true, if_false] at hb
    unfold getItem
    simp only [List.cons_append, hk, hb, hv, ne_eq, not_true, if_false, Bool.false_eq_true]
    obtain ⟨a, b, c, d⟩ := x
    simp only at h4 h5
    subst h4 h5
    simp only [eta2]
  · rw [if_neg (by omega), if_neg (by omega)]
    have hb := rbool_laid true (varsB [x.over, x.size] ++ rest)
    have hv := rvar_laid (v := x.over) ⟨by omega, by omega⟩ (uvarint (zigzag x.size) ++ rest)
    have hs := rvar_laid (v := x.size) ⟨by omega, by omega⟩ rest
    have e1 : varsB [x.over, x.size] ++ rest = uvarint (zigzag x.over) ++ (uvarint (zigzag x.size) ++ rest) := by simp [varsB]
    simp only [if_true] at hb
    rw [e1] at hb
    unfold getItem
    simp only [List.cons_append, hk, e1, hb, hv, hs, ne_eq, not_true, if_false, if_true]
    obtain ⟨a, b, c, d⟩ := x
    simp only at h8
    subst h8
    simp only [eta2]

/-- What is laid of right items begins with the same items. -/
theorem leafB_prefix : ∀ {l m : List Itm} {rest : List UInt8}, (∀ x ∈ l, rightB x = true) → (∀ x ∈ m, rightB x = true) → leafB l ++ rest = leafB m → l.length ≤ m.length ∧ l = m.take l.length
  | [], m, _, _, _, _ => by simp
  | x :: l, [], rest, hl, _, h => by
    have h1 := (right_len (hl x (by simp))).2
    have h2 := congrArg List.length h
    simp only [leafB, List.flatMap_cons, List.flatMap_nil, List.length_append, List.length_nil] at h2
    omega
  | x :: l, y :: m, rest, hl, hm, h => by
    have e1 := getItem_laid (hl x (by simp)) (leafB l ++ rest)
    have e2 := getItem_laid (hm y (by simp)) (leafB m)
    have h' : itemB x ++ (leafB l ++ rest) = itemB y ++ leafB m := by simpa [leafB] using h
    rw [h', e2] at e1
    simp only [Prod.mk.injEq] at e1
    obtain ⟨h3, h4⟩ := leafB_prefix (fun z hz => hl z (by simp [hz])) (fun z hz => hm z (by simp [hz])) e1.2.1.symm
    simp only [List.length_cons, List.take_succ_cons]
    exact ⟨by omega, by rw [← e1.1, ← h4]⟩
theorem leafB_inj {l m : List Itm} (hl : ∀ x ∈ l, rightB x = true) (hm : ∀ x ∈ m, rightB x = true) (h : leafB l = leafB m) : l = m := by
  obtain ⟨h1, h2⟩ := leafB_prefix (rest := []) hl hm (by simpa using h)
  obtain ⟨h3, _⟩ := leafB_prefix (rest := []) hm hl (by simpa using h.symm)
  rw [h2, List.take_of_length_le h3]

/-- The items of some bytes, if they are what Put lays of items. -/
def IsLeaf (b : List UInt8) (l : List Itm) : Prop := OKL l ∧ sz l ≤ 240 ∧ leafB l = b
/-- Size's least, as Split takes it. -/
def grOf (l : List Itm) (k : Nat) : Nat := max (sz (l.take k)) (sz l - sz (l.take k))
def bestTo (l : List Itm) : Nat → Nat × Nat
  | 0 => (sz l + 1, 0)
  | k + 1 => if grOf l (k + 1) < (bestTo l k).1 then (grOf l (k + 1), k + 1) else bestTo l k
def halfL (l : List Itm) : Nat := if l.length < 2 then l.length else (bestTo l (l.length - 1)).2
end Go.Proofs.YtpoocbkligjgbaaGreatDoor

namespace Go.Proofs.YtpoocbkligjgbaaGreatDoor.BR
open Go.RowKit Go.Lib

/-- A child. -/
structure Chd where
  key : ByteArray
  page : Int
def Chd.ok (x : Chd) : Prop := x.key.size ≤ 9223372036854775807 ∧ IsInt x.page

/-- The keys rise strictly. -/
def Rise (l : List Chd) : Prop := l.Pairwise fun a b => ltK a.key b.key = true
instance (l : List Chd) : Decidable (Rise l) := by unfold Rise; exact inferInstance
theorem Rise.at {l : List Chd} (h : Rise l) {i j : Nat} (hij : i < j) (hj : j < l.length) : ltK (l[i]'(by omega)).key l[j].key = true :=
  List.pairwise_iff_getElem.1 h i j (by omega) hj hij
theorem rise_next {l : List Chd} (h : ∀ i (hi : i + 1 < l.length), ltK (l[i]'(by omega)).key l[i + 1].key = true) : Rise l := by
  unfold Rise
  rw [List.pairwise_iff_getElem]
  intro i j hi hj hij
  induction j with
  | zero => omega
  | succ j ih =>
    by_cases e : i = j
    · subst e; exact h i hj
    · exact ltK_trans (ih (by omega) (by omega)) (h j hj)
theorem Rise.take {l : List Chd} (h : Rise l) (n : Nat) : Rise (l.take n) := List.Pairwise.sublist (List.take_sublist n l) h
theorem Rise.drop {l : List Chd} (h : Rise l) (n : Nat) : Rise (l.drop n) := List.Pairwise.sublist (List.drop_sublist n l) h
theorem rise_take {l : List Chd} {k : Nat} (hk : k < l.length) (h : Rise (l.take k)) (h1 : ∀ h : 0 < k, ltK (l[k - 1]'(by omega)).key l[k].key = true) : Rise (l.take (k + 1)) := by
  refine rise_next fun i hi => ?_
  simp only [List.length_take] at hi
  rw [List.getElem_take, List.getElem_take]
  by_cases e : i + 1 = k
  · subst e
    exact h1 (by omega)
  · have := h.at (i := i) (j := i + 1) (by omega) (by simp; omega)
    rwa [List.getElem_take, List.getElem_take] at this


/-- Of children whose keys rise behind the first one: how many behind the first have a key that is not above k. So it is the place below which k stands. -/
def fnd (l : List Chd) (k : ByteArray) : Nat := ((l.drop 1).takeWhile fun x => !ltK k x.key).length
theorem fnd_le (l : List Chd) (k : ByteArray) : fnd l k ≤ l.length - 1 := by
  have := (List.takeWhile_sublist (fun x : Chd => !ltK k x.key) (l := l.drop 1)).length_le
  unfold fnd
  rw [List.length_drop] at this
  omega
theorem tw_below {p : Chd → Bool} : ∀ {l : List Chd} {i : Nat} (_ : i < (l.takeWhile p).length) (hi : i < l.length), p l[i] = true
  | [], _, h, hi => by simp at hi
  | a :: l, i, h, hi => by
    rw [List.takeWhile_cons] at h
    by_cases hc : p a = true
    · rw [if_pos hc] at h
      cases i with
      | zero => exact hc
      | succ i => exact tw_below (l := l) (by simpa using h) (by simpa using hi)
    · rw [if_neg hc] at h
      simp at h
theorem tw_at {p : Chd → Bool} : ∀ {l : List Chd} (h : (l.takeWhile p).length < l.length), p l[(l.takeWhile p).length] = false
  | [], h => by simp at h
  | a :: l, h => by
    by_cases hc : p a = true
    · have e : ((a :: l).takeWhile p).length = (l.takeWhile p).length + 1 := by rw [List.takeWhile_cons, if_pos hc]; rfl
      have h' : (l.takeWhile p).length < l.length := by rw [e] at h; simpa using h
      simp only [e, List.getElem_cons_succ]
      exact tw_at h'
    · have e : ((a :: l).takeWhile p).length = 0 := by rw [List.takeWhile_cons, if_neg hc]; rfl
      simp only [e, List.getElem_cons_zero]
      simpa using hc
theorem fnd_below {l : List Chd} {k : ByteArray} {i : Nat} (h1 : 1 ≤ i) (h : i ≤ fnd l k) (hi : i < l.length) : ltK k l[i].key = false := by
  obtain ⟨j, rfl⟩ : ∃ j, i = j + 1 := ⟨i - 1, by omega⟩
  have h2 : j < (l.drop 1).length := by rw [List.length_drop]; omega
  have h3 := tw_below (p := fun x : Chd => !ltK k x.key) (l := l.drop 1) (i := j) (by unfold fnd at h; omega) h2
  rw [List.getElem_drop] at h3
  simp only [Nat.add_comm 1 j] at h3
  simpa using h3
theorem fnd_at {l : List Chd} {k : ByteArray} (h : fnd l k + 1 < l.length) : ltK k l[fnd l k + 1].key = true := by
  have h2 : ((l.drop 1).takeWhile fun x => !ltK k x.key).length < (l.drop 1).length := by rw [List.length_drop]; unfold fnd at h; omega
  have h3 := tw_at (p := fun x : Chd => !ltK k x.key) (l := l.drop 1) h2
  rw [List.getElem_drop] at h3
  have e : 1 + ((l.drop 1).takeWhile fun x => !ltK k x.key).length = fnd l k + 1 := by unfold fnd; omega
  simp only [e] at h3
  simpa using h3
theorem fnd_above {l : List Chd} (hr : Rise (l.drop 1)) {k : ByteArray} {i : Nat} (h : fnd l k < i) (hi : i < l.length) : ltK k l[i].key = true := by
  by_cases e : fnd l k + 1 = i
  · subst e; exact fnd_at hi
  · have h1 := hr.at (i := fnd l k) (j := i - 1) (by omega) (by rw [List.length_drop]; omega)
    rw [List.getElem_drop, List.getElem_drop] at h1
    have e1 : 1 + fnd l k = fnd l k + 1 := by omega
    have e2 : 1 + (i - 1) = i := by omega
    simp only [e1, e2] at h1
    exact ltK_trans (fnd_at (by omega)) h1

/-- The first of all has the empty key. -/
def first : List Chd → List Chd
  | [] => []
  | c :: r => ⟨⟨#[]⟩, c.page⟩ :: r
/-- Children in the place of one. -/
def rawL (l : List Chd) (i : Nat) (x : List Chd) : List Chd := l.take i ++ (x ++ l.drop (i + 1))
def replL (l : List Chd) (i : Int) (x : List Chd) : List Chd := if 0 ≤ i ∧ i < l.length then first (rawL l i.toNat x) else l
end Go.Proofs.YtpoocbkligjgbaaGreatDoor.BR

namespace Go.Proofs.YtpoocbkligjgbaaGreatDoor.BR
open Go.RowKit Go.Lib

/-- The bytes of a child, of children; how many. -/
def itemB (x : Chd) : List UInt8 := textB x.key ++ uvarint (zigzag x.page)
def leafB (l : List Chd) : List UInt8 := l.flatMap itemB
def sz (l : List Chd) : Nat := (leafB l).length

/-- A right child, wherever it stands. -/
def rightB (x : Chd) : Bool := decide (2 ≤ x.page ∧ x.page ≤ 4294967295 ∧ x.key.size ≤ 40)
def OKL (l : List Chd) : Prop := (l.head?.map Chd.key = some ⟨#[]⟩) ∧ (∀ x ∈ l, rightB x = true) ∧ Rise l
instance (l : List Chd) : Decidable (OKL l) := by unfold OKL Rise; exact inferInstance
def putE (l : List Chd) : Int := if OKL l then (if sz l ≤ 240 then 0 else 2) else 1
def putB (l : List Chd) : List UInt8 := if OKL l ∧ sz l ≤ 240 then leafB l else []
theorem OKL.zero {l : List Chd} (h : OKL l) : ∃ c r, l = c :: r ∧ c.key = ⟨#[]⟩ := by
  cases l with
  | nil => have := h.1; simp at this
  | cons c r => exact ⟨c, r, rfl, by have := h.1; simpa using this⟩
theorem OKL.pos {l : List Chd} (h : OKL l) : 0 < l.length := by
  obtain ⟨c, r, rfl, _⟩ := h.zero
  simp
theorem OKL.head {l : List Chd} (h : OKL l) (h0 : 0 < l.length) : l[0].key = ⟨#[]⟩ := by
  obtain ⟨c, r, rfl, hc⟩ := h.zero
  exact hc
theorem okl_is {l : List Chd} (h0 : 0 < l.length) (h1 : l[0].key = ⟨#[]⟩) (h2 : ∀ x ∈ l, rightB x = true) (h3 : Rise l) : OKL l := by
  refine ⟨?_, h2, h3⟩
  cases l with
  | nil => simp at h0
  | cons c r => simpa using h1

theorem leafB_append (l m : List Chd) : leafB (l ++ m) = leafB l ++ leafB m := by simp [leafB]
theorem sz_append (l m : List Chd) : sz (l ++ m) = sz l + sz m := by simp [sz, leafB_append]
theorem sz_cons (x : Chd) (l : List Chd) : sz (x :: l) = (itemB x).length + sz l := by simp [sz, leafB]
theorem leafB_snoc (l : List Chd) (x : Chd) : leafB (l ++ [x]) = leafB l ++ itemB x := by simp [leafB]
theorem sz_snoc (l : List Chd) (x : Chd) : sz (l ++ [x]) = sz l + (itemB x).length := by simp [sz, leafB]
theorem sz_take (l : List Chd) (k : Nat) : sz (l.take k) ≤ sz l ∧ sz l = sz (l.take k) + sz (l.drop k) := by
  have : sz l = sz (l.take k) + sz (l.drop k) := by rw [← sz_append, List.take_append_drop]
  omega
theorem right_cases {x : Chd} (h : rightB x = true) : 2 ≤ x.page ∧ x.page ≤ 4294967295 ∧ x.key.size ≤ 40 := of_decide_eq_true h
theorem item_two (x : Chd) : 2 ≤ (itemB x).length := by
  have h1 := textB_len x.key
  have h2 := uv_pos (zigzag x.page)
  unfold itemB
  rw [List.length_append]
  omega
/-- A right child has at most 46 bytes. -/
theorem right_len {x : Chd} (h : rightB x = true) : (itemB x).length ≤ 46 ∧ 2 ≤ (itemB x).length := by
  obtain ⟨h1, h2, h3⟩ := right_cases h
  have hk := textB_small (s := x.key) (by omega)
  refine ⟨?_, item_two x⟩
  unfold itemB
  have e1 : (uvarint (zigzag x.page)).length ≤ 5 := uv_len (by unfold zigzag; rw [if_pos (by omega)]; have : (128 : Nat) ^ 5 = 34359738368 := by decide
                                                               omega) (by omega)
  simp only [List.length_append, hk]
  omega
theorem right_sz {l : List Chd} (h : ∀ x ∈ l, rightB x = true) : sz l ≤ 46 * l.length := by
  induction l with
  | nil => simp [sz, leafB]
  | cons x l ih =>
    have h1 := (right_len (h x (by simp))).1
    have h2 := ih (fun y hy => h y (by simp [hy]))
    rw [sz_cons, List.length_cons]
    omega
theorem right_ok {x : Chd} (h : rightB x = true) : x.ok := by
  obtain ⟨h1, h2, h3⟩ := right_cases h
  unfold Chd.ok IsInt
  omega

/-- What is read of a child's bytes: the child, what is left, the reader's error. -/
def getItem (b : List UInt8) : Chd × List UInt8 × Int :=
  let k := rtext 40 b
  if k.2.2 ≠ 0 then (⟨⟨k.1.toArray⟩, 0⟩, k.2.1, k.2.2) else
  let v := rvar k.2.1
  (⟨⟨k.1.toArray⟩, v.1⟩, v.2.1, v.2.2)
/-- What Put lays of a right child is read as it was. -/
theorem getItem_laid {x : Chd} (h : rightB x = true) (rest : List UInt8) : getItem (itemB x ++ rest) = (x, rest, 0) := by
  obtain ⟨h1, h2, h3⟩ := right_cases h
  unfold itemB
  rw [List.append_assoc]
  have hk := rtext_laid (s := x.key) (most := 40) (by omega) (by omega) (uvarint (zigzag x.page) ++ rest)
  have hv := rvar_laid (v := x.page) ⟨by omega, by omega⟩ rest
  unfold getItem
  simp only [hk, hv, ne_eq, not_true, if_false]

/-- What is laid of right children begins with the same children. -/
theorem leafB_prefix : ∀ {l m : List Chd} {rest : List UInt8}, (∀ x ∈ l, rightB x = true) → (∀ x ∈ m, rightB x = true) → leafB l ++ rest = leafB m → l.length ≤ m.length ∧ l = m.take l.length
  | [], m, _, _, _, _ => by simp
  | x :: l, [], rest, hl, _, h => by
    have h1 := (right_len (hl x (by simp))).2
    have h2 := congrArg List.length h
    simp only [leafB, List.flatMap_cons, List.flatMap_nil, List.length_append, List.length_nil] at h2
    omega
  | x :: l, y :: m, rest, hl, hm, h => by
    have e1 := getItem_laid (hl x (by simp)) (leafB l ++ rest)
    have e2 := getItem_laid (hm y (by simp)) (leafB m)
    have h' : itemB x ++ (leafB l ++ rest) = itemB y ++ leafB m := by simpa [leafB] using h
    rw [h', e2] at e1
    simp only [Prod.mk.injEq] at e1
    obtain ⟨h3, h4⟩ := leafB_prefix (fun z hz => hl z (by simp [hz])) (fun z hz => hm z (by simp [hz])) e1.2.1.symm
    simp only [List.length_cons, List.take_succ_cons]
    exact ⟨by omega, by rw [← e1.1, ← h4]⟩
theorem leafB_inj {l m : List Chd} (hl : ∀ x ∈ l, rightB x = true) (hm : ∀ x ∈ m, rightB x = true) (h : leafB l = leafB m) : l = m := by
  obtain ⟨h1, h2⟩ := leafB_prefix (rest := []) hl hm (by simpa using h)
  obtain ⟨h3, _⟩ := leafB_prefix (rest := []) hm hl (by simpa using h.symm)
  rw [h2, List.take_of_length_le h3]

/-- The children of some bytes, if they are what Put lays of children. -/
def IsLeaf (b : List UInt8) (l : List Chd) : Prop := OKL l ∧ sz l ≤ 240 ∧ leafB l = b
/-- Size's least, as Split takes it. -/
def grOf (l : List Chd) (k : Nat) : Nat := max (sz (l.take k)) (sz l - sz (l.take k))
def bestTo (l : List Chd) : Nat → Nat × Nat
  | 0 => (sz l + 1, 0)
  | k + 1 => if grOf l (k + 1) < (bestTo l k).1 then (grOf l (k + 1), k + 1) else bestTo l k
def halfL (l : List Chd) : Nat := if l.length < 2 then l.length else (bestTo l (l.length - 1)).2
end Go.Proofs.YtpoocbkligjgbaaGreatDoor.BR

namespace Go.Proofs.YtpoocbkligjgbaaGreatDoor
open Go.RowKit

def icells (x : Itm) : List Value := [.string x.key, .string x.val, .int .i64 x.over, .int .i64 x.size]
def ilist (l : List Itm) : List Value := l.flatMap icells
abbrev iagg (x : Itm) : Value := .agg #[.string x.key, .string x.val, .int .i64 x.over, .int .i64 x.size]
abbrev iobj (x : Itm) : Obj := .cells #[.string x.key, .string x.val, .int .i64 x.over, .int .i64 x.size] 126

theorem ilist_append (l m : List Itm) : ilist (l ++ m) = ilist l ++ ilist m := by simp [ilist]
theorem ilist_cons (x : Itm) (l : List Itm) : ilist (x :: l) = icells x ++ ilist l := by simp [ilist]
theorem length_ilist (l : List Itm) : (ilist l).length = l.length * 4 := by
  induction l with
  | nil => rfl
  | cons x l ih => rw [ilist_cons, List.length_append, ih, List.length_cons, Nat.add_mul]; simp [icells]; omega
theorem icells_one (x : Itm) : ∀ u ∈ icells x, u.oneCell' = true := by
  intro u hu
  simp [icells] at hu
  rcases hu with rfl | rfl | rfl | rfl <;> rfl
theorem ilist_one (l : List Itm) : ∀ u ∈ ilist l, u.oneCell' = true := by
  intro u hu
  obtain ⟨x, _, h⟩ := List.mem_flatMap.1 hu
  exact icells_one x u h
theorem ilist_at {l : List Itm} {i : Nat} (h : i < l.length) (j : Nat) (hj : j < 4) : (ilist l)[i * 4 + j]? = (icells l[i])[j]? := by
  have e : l = l.take i ++ l[i] :: l.drop (i + 1) := by rw [← List.drop_eq_getElem_cons h, List.take_append_drop]
  have ht : (l.take i).length = i := by simp; omega
  have e2 : ilist l = ilist (l.take i) ++ (icells l[i] ++ ilist (l.drop (i + 1))) := by
    conv => lhs; rw [e]
    rw [ilist_append, ilist_cons]
  have hlen : (icells l[i]).length = 4 := rfl
  rw [e2, List.getElem?_append_right (by rw [length_ilist, ht]; omega), length_ilist, ht, List.getElem?_append_left (by rw [hlen]; omega)]
  congr 1
  omega

/-- The cells of items at a place. -/
def ItsAt (w : World) (b off : Nat) (l : List Itm) : Prop :=
  ∀ i (h : i < l.length), w.cell? ⟨b, off + i * 4, none⟩ = some (.string l[i].key) ∧ w.cell? ⟨b, off + i * 4 + 1, none⟩ = some (.string l[i].val) ∧ w.cell? ⟨b, off + i * 4 + 2, none⟩ = some (.int .i64 l[i].over) ∧ w.cell? ⟨b, off + i * 4 + 3, none⟩ = some (.int .i64 l[i].size)
/-- v is a slice of the items l, in a block below B. -/
def ReadsIt (w : World) (B : Nat) (v : Value) (l : List Itm) : Prop :=
  ∃ (A : Option Addr) (c : Nat), v = .slice A l.length c ∧ l.length ≤ c ∧ c ≤ maxLen ∧ (A = none → l = [] ∧ c = 0) ∧ (0 < l.length → ∃ b off, A = some ⟨b, off, none⟩ ∧ b < B ∧ ItsAt w b off l)

theorem ItsAt.below {w w' : World} {B b off : Nat} {l : List Itm} (h : ItsAt w b off l) (hb : Below B w w') (hlt : b < B) : ItsAt w' b off l :=
  fun i hi => ⟨(hb.cell hlt).trans (h i hi).1, (hb.cell hlt).trans (h i hi).2.1, (hb.cell hlt).trans (h i hi).2.2.1, (hb.cell hlt).trans (h i hi).2.2.2⟩
theorem ItsAt.take {w : World} {b off : Nat} {l : List Itm} (h : ItsAt w b off l) (n : Nat) : ItsAt w b off (l.take n) := by
  intro i hi
  have hi' : i < l.length := by simp at hi; omega
  rw [List.getElem_take]
  exact h i hi'
theorem ItsAt.drop {w : World} {b off : Nat} {l : List Itm} (h : ItsAt w b off l) (n : Nat) : ItsAt w b (off + n * 4) (l.drop n) := by
  intro i hi
  have hi' : n + i < l.length := by simp at hi; omega
  have := h (n + i) hi'
  rw [List.getElem_drop]
  rw [Nat.add_mul, ← Nat.add_assoc] at this
  exact this
theorem ItsAt.list {w : World} {b off : Nat} {l : List Itm} (h : ItsAt w b off l) : ∀ j u, (ilist l)[j]? = some u → w.cell? ⟨b, off + j, none⟩ = some u := by
  intro j u hu
  have hj := (List.getElem?_eq_some_iff.1 hu).1
  rw [length_ilist] at hj
  have hi : j / 4 < l.length := by omega
  have e := ilist_at hi (j % 4) (by omega)
  have e1 : j / 4 * 4 + j % 4 = j := by omega
  have h4 := h (j / 4) hi
  rw [e1, hu] at e
  have h3 : j % 4 = 0 ∨ j % 4 = 1 ∨ j % 4 = 2 ∨ j % 4 = 3 := by omega
  rcases h3 with h3 | h3 | h3 | h3 <;> rw [h3] at e <;> simp [icells] at e <;> subst e
  · rw [← h4.1]; congr 2; omega
  · rw [← h4.2.1]; congr 2; omega
  · rw [← h4.2.2.1]; congr 2; omega
  · rw [← h4.2.2.2]; congr 2; omega
theorem itsAt_list {w : World} {b off : Nat} {l : List Itm} (h : ∀ j u, (ilist l)[j]? = some u → w.cell? ⟨b, off + j, none⟩ = some u) : ItsAt w b off l := by
  intro i hi
  have e (j : Nat) (hj : j < 4) : w.cell? ⟨b, off + (i * 4 + j), none⟩ = (icells l[i])[j]? := by
    rw [← ilist_at hi j hj]
    rw [h (i * 4 + j) ((ilist l)[i * 4 + j]'(by rw [length_ilist]; omega)) (List.getElem?_eq_getElem _), List.getElem?_eq_getElem]
  have e0 := e 0 (by omega)
  have e1 := e 1 (by omega)
  have e2 := e 2 (by omega)
  have e3 := e 3 (by omega)
  simp only [← Nat.add_assoc] at e0 e1 e2 e3
  exact ⟨e0, e1, e2, e3⟩

theorem ReadsIt.below {w w' : World} {B : Nat} {v : Value} {l : List Itm} (h : ReadsIt w B v l) (hb : Below B w w') : ReadsIt w' B v l := by
  obtain ⟨A, c, hv, hc, hm, hn, h⟩ := h
  refine ⟨A, c, hv, hc, hm, hn, fun h0 => ?_⟩
  obtain ⟨b, off, hA, hlt, hi⟩ := h h0
  exact ⟨b, off, hA, hlt, hi.below hb hlt⟩
theorem ReadsIt.mono {w : World} {B B' : Nat} {v : Value} {l : List Itm} (h : ReadsIt w B v l) (hB : B ≤ B') : ReadsIt w B' v l := by
  obtain ⟨A, c, hv, hc, hm, hn, h⟩ := h
  refine ⟨A, c, hv, hc, hm, hn, fun h0 => ?_⟩
  obtain ⟨b, off, hA, hlt, hi⟩ := h h0
  exact ⟨b, off, hA, by omega, hi⟩
theorem ReadsIt.grow {w w' : World} {B : Nat} {v : Value} {l : List Itm} (h : ReadsIt w B v l) (hb : Below B w w') (hB : B ≤ w'.heap.size) : ReadsIt w' w'.heap.size v l := (h.below hb).mono hB
theorem ReadsIt.form {w : World} {B : Nat} {v : Value} {l : List Itm} (h : ReadsIt w B v l) : ∃ A c, v = .slice A l.length c := by
  obtain ⟨A, c, hv, _⟩ := h
  exact ⟨A, c, hv⟩
theorem ReadsIt.nil_ (w : World) (B : Nat) : ReadsIt w B (.slice none 0 0) [] := ⟨none, 0, rfl, Nat.le_refl _, Nat.zero_le _, fun _ => ⟨rfl, rfl⟩, fun h => by simp at h⟩
/-- A row of the call's own reads. -/
theorem row_readsIt {base : Nat} {w : World} {v : Value} {l : List Itm} (h : w.ownsRow base 126 4 v l.length (ilist l)) : ReadsIt w w.heap.size v l := by
  rcases h.2 with ⟨rfl, h0⟩ | ⟨g, cap, cur, rfl, _, hg, hnc, hcm, _⟩
  · exact ⟨none, 0, by rw [h0], by omega, Nat.zero_le _, fun _ => ⟨List.eq_nil_of_length_eq_zero h0, rfl⟩, fun h1 => by omega⟩
  · refine ⟨some ⟨g, 0, none⟩, cap, rfl, hnc, hcm, (fun e => by cases e), fun _ => ⟨g, 0, rfl, lt_of_block hg, itsAt_list fun j u hu => ?_⟩⟩
    have hc := World.ownsRow.cells h rfl j u hu
    rw [Go.WideShapes.add_plain] at hc
    exact hc
/-- A new block of just some items. -/
theorem ReadsIt.built (w : World) (l : List Itm) (hm : l.length ≤ maxLen) : ReadsIt (w.alloc (.cells (ilist l).toArray 126)) (w.heap.size + 1) (.slice (some ⟨w.heap.size, 0, none⟩) l.length l.length) l := by
  refine ⟨some ⟨w.heap.size, 0, none⟩, l.length, rfl, Nat.le_refl _, hm, (fun e => by cases e), fun _ => ⟨w.heap.size, 0, rfl, by omega, itsAt_list fun j u hu => ?_⟩⟩
  rw [Nat.zero_add, (Has.made w 126 (ilist l).toArray).cell j]
  simpa using hu
theorem ReadsIt.take {w : World} {B b off : Nat} {l : List Itm} {c : Nat} (h : ReadsIt w B (.slice (some ⟨b, off, none⟩) l.length c) l) {n : Nat} (hn : n ≤ l.length) : ReadsIt w B (.slice (some ⟨b, off, none⟩) n c) (l.take n) := by
  obtain ⟨A, c', hv, hc, hm, _, h⟩ := h
  cases hv
  have ht : (l.take n).length = n := by simp; omega
  refine ⟨some ⟨b, off, none⟩, c, by rw [ht], by omega, hm, fun e => (by cases e), fun h0 => ?_⟩
  obtain ⟨b', off', hA, hlt, hi⟩ := h (by omega)
  cases hA
  exact ⟨b, off, rfl, hlt, hi.take n⟩
theorem ReadsIt.drop {w : World} {B b off : Nat} {l : List Itm} {c : Nat} (h : ReadsIt w B (.slice (some ⟨b, off, none⟩) l.length c) l) {n : Nat} (hn : n ≤ l.length) : ReadsIt w B (.slice (some ⟨b, off + n * 4, none⟩) (l.length - n) (c - n)) (l.drop n) := by
  obtain ⟨A, c', hv, hc, hm, _, h⟩ := h
  cases hv
  have ht : (l.drop n).length = l.length - n := by simp
  refine ⟨some ⟨b, off + n * 4, none⟩, c - n, by rw [ht], by omega, by omega, fun e => (by cases e), fun h0 => ?_⟩
  obtain ⟨b', off', hA, hlt, hi⟩ := h (by omega)
  cases hA
  exact ⟨b, off + n * 4, rfl, hlt, hi.drop n⟩
end Go.Proofs.YtpoocbkligjgbaaGreatDoor

namespace Go.Proofs.YtpoocbkligjgbaaGreatDoor
open Go.RowKit




theorem rform3 {w : World} {base : Nat} {e : TypeId} {k : Nat} {v : Value} {n : Nat} {xs : List Value} (h : w.ownsRow base e k v n xs) : ∃ A c, v = .slice A n c := by
  rcases h.2 with ⟨rfl, rfl⟩ | ⟨g, cap, cur, rfl, _⟩
  · exact ⟨none, 0, rfl⟩
  · exact ⟨_, _, rfl⟩

end Go.Proofs.YtpoocbkligjgbaaGreatDoor

namespace Go.Proofs.YtpoocbkligjgbaaGreatDoor
open Go.RowKit Go.Lib

theorem Tryz.underlyingPB : Tryz.prog.underlying 268 = some (.pointer 270) := by kernel_rfl
theorem Tryz.underlyingUns : Tryz.prog.underlying 372 = some .unsafePointer := by kernel_rfl
theorem Tryz.sizeBld : (Tryz.prog.info? 270).map (·.size) = some 2 := by kernel_rfl
theorem Tryz.liesBld : liesAt Tryz.prog Tryz.prog.depth 270 (2 / Tryz.prog.cellsOf 270) 0 270 1 = true := by kernel_rfl


end Go.Proofs.YtpoocbkligjgbaaGreatDoor

namespace Go.Proofs.YtpoocbkligjgbaaGreatDoor
open Go.RowKit Go.Lib

/-- What stands beside a builder: objects of other types than bytes, and not the builder's own, stay. -/
def KeepsBut (b : Nat) (w w' : World) : Prop := ∀ g t cs, g ≠ b → t ≠ 5 → Has w g t cs → Has w' g t cs
theorem KeepsBut.refl (b : Nat) (w : World) : KeepsBut b w w := fun _ _ _ _ _ h => h
theorem KeepsBut.trans {b : Nat} {w w1 w2 : World} (h : KeepsBut b w w1) (k : KeepsBut b w1 w2) : KeepsBut b w w2 := fun g t cs h1 h2 h3 => k g t cs h1 h2 (h g t cs h1 h2 h3)
theorem keepsBut_set {b : Nat} {w : World} (u : Value) : KeepsBut b w (w.setCell ⟨b, 0, none⟩ u) := fun _ _ _ h1 _ h => h.past (by exact h1) u
theorem keepsBut_set1 {b : Nat} {w : World} (u : Value) : KeepsBut b w (w.setCell ⟨b, 1, none⟩ u) := fun _ _ _ h1 _ h => h.past (by exact h1) u
theorem keepsBut_grown {B b : Nat} {w w' : World} {v : Value} {n : Nat} {xs : List Value} (hr : w.ownsRow B 5 1 v n xs) (hg : w.grownBy w' v.ownBlock) : KeepsBut b w w' := by
  intro g t cs _ ht h
  refine h.grown hg fun e => ?_
  rcases hr.2 with ⟨rfl, _⟩ | ⟨g', cap, cur, rfl, _, hgc, _⟩
  · simp [Value.ownBlock] at e
  · simp [Value.ownBlock] at e
    subst e
    have h3 : w.heap[g]? = _ := h
    rw [hgc] at h3
    simp at h3
    exact ht h3.2.symm
theorem KeepsBut.below {b : Nat} {w w' : World} (h : Below w.heap.size w w') : KeepsBut b w w' := fun _ _ _ _ _ k => k.below h k.inside

set_option maxRecDepth 100000 in
set_option maxHeartbeats 1000000 in
theorem bcheck_keeps {B b : Nat} {bs : List Value} {w : World} (h : Lib.IsBuilder 270 5 B b bs w) :
    Calls Tryz.prog 225 #[.pointer (some ⟨b, 0, none⟩)] w fun e w' => e = .returned (.tuple #[]) ∧ Lib.BuilderAt 270 5 B b (.pointer (some ⟨b, 0, none⟩)) bs w' ∧ Below B w w' ∧ KeepsBut b w w' := by
  obtain ⟨j, hj, hjs⟩ := Option.map_eq_some_iff.1 Tryz.sizeBld
  rcases h with h | h
  · have hsh := h.shape
    have h0 := h.cell0
    have hfz := h.frozen0
    have H := Lib.hid h
    have HJ := Lib.hid hjs
    clear h hjs
    go_enter Tryz.func225, Tryz.ntmps225
    go_wp2_with fail
    rw [Lib.run_to_unsafe w ⟨b, 0, none⟩ Tryz.underlyingPB Tryz.underlyingUns hj (by rw [HJ.out]; decide) hsh (Nat.zero_lt_succ 1)]
    simp only [Result.andThen]
    rw [Oper.upon_value]
    go_wp2_with fail
    rw [run_callFunc_extern Tryz.func274 (by kernel_rfl) (by kernel_rfl) (by kernel_rfl) (e := Extern.AbiNoEscape.same) (by kernel_rfl)]
    rw [Lib.run_noEscape]
    simp only [Result.andThen]
    rw [Oper.upon_value]
    go_wp2_with fail
    rw [Lib.run_from_unsafe w ⟨b, 0, none⟩ Tryz.underlyingUns Tryz.underlyingPB hj hsh Tryz.liesBld]
    simp only [Result.andThen]
    rw [Oper.upon_value]
    go_wp2_with fail
    go_end0
    exact ⟨rfl, H.out.used _, (Below.refl B w).setCell (p := ⟨b, 0, none⟩) H.out.1 _, keepsBut_set _⟩
  · have H := Lib.hid h
    have h0 := h.cell0
    clear h hjs
    go_enter Tryz.func225, Tryz.ntmps225
    go_wp2_with fail
    rw [Lib.run_neq_ptr_same w _ Tryz.underlyingPB hj]
    go_wp2_with fail
    go_end0
    exact ⟨rfl, H.out, Below.refl _ _, KeepsBut.refl _ _⟩

set_option maxRecDepth 100000 in
set_option maxHeartbeats 1000000 in
theorem bwrite_keeps {B b : Nat} {m : List UInt8} {w : World} (s : ByteArray) (h : Lib.IsBuilder 270 5 B b (byteCells m) w) (hm : m.length ≤ 1000000) (hs : s.size ≤ 1000000) :
    Calls Tryz.prog 162 #[.pointer (some ⟨b, 0, none⟩), .string s] w fun e w' => e = .returned (.tuple #[.int .i64 s.size, .nilIface]) ∧ Lib.BuilderAt 270 5 B b (.pointer (some ⟨b, 0, none⟩)) (byteCells (m ++ s.data.toList)) w' ∧ Below B w w' ∧ KeepsBut b w w' := by
  have hc := bcheck_keeps h
  go_enter Tryz.func162, Tryz.ntmps162
  clear h
  go_wp2_with fail
  refine hc.mono ?_
  rintro e w1 ⟨rfl, hb, hb1, hkb⟩
  have HKB := Lib.hid hkb
  clear hkb
  have H := Lib.hid (And.intro hb hb1)
  obtain ⟨hB, v, hg, hrow, hv⟩ := hb
  have hh : Has w1 b 270 #[.pointer (some ⟨b, 0, none⟩), v] := hg
  have c0 : w1.cell? ⟨b, 1, none⟩ = some v := hh.cell 1
  obtain ⟨i0, hi0, hz0, hz1, hz2⟩ := info_parts Tryz.infoU8
  have hbw : B ≤ w1.heap.size := Nat.le_trans hB (Nat.le_of_lt hh.inside)
  have hlen : (byteCells m).length = m.length := by simp [byteCells]
  rw [hlen] at hrow
  have HH := Lib.hid (And.intro hh (And.intro hv (And.intro hrow hlen)))
  clear hc hb1 hg hh hv hB hlen
  go_wp2_with (at_builtin; refine wpList_append_own_string w1 rfl _ _ 223 9 rfl B 5 i0 Tryz.underlying223 Tryz.underlying9 hi0 hz0 hz1 hz2 v m.length (byteCells m) rfl hrow s rfl (by unfold maxLen; omega) (by omega) hbw ?_; intro v2 w2 hr2 hg2 _; obtain ⟨A2, c2, hv2⟩ := rform3 hr2; have hh2 := HH.out.1.grown hg2 (fun e => HH.out.2.1 e.symm); have d1 : w2.cell? ⟨b, 1, none⟩ = some v := hh2.cell 1; have d2 := hh2.free 1; have H2 := Lib.hid (And.intro hr2 (And.intro hg2 hh2)); subst hv2; clear hr2 hg2 hh2)
  obtain ⟨hr2, hg2, hh2⟩ := H2.out
  obtain ⟨hb0, hb1⟩ := H.out
  have hbB := hb0.1
  have hlt := HH.out.1.inside
  have hne : (Value.slice A2 (m.length + s.size) c2).ownBlock ≠ some b := by
    intro e
    rcases hr2.2 with ⟨h0, _⟩ | ⟨g, cap, cur, h0, _, hgc, _⟩
    · rw [h0] at e; simp [Value.ownBlock] at e
    · rw [h0] at e
      simp [Value.ownBlock] at e
      subst e
      have h3 : w2.heap[g]? = _ := hh2
      rw [hgc] at h3
      simp at h3
  go_ret2
  refine ⟨rfl, ⟨hbB, _, hh2.put 1 _, ?_, hne⟩, ?_, ?_⟩
  · have hr3 := row_kept hr2 ((Kept.refl [b] w2).setCell (p := ⟨b, 1, none⟩) (.inl (by simp)) (.slice A2 (m.length + s.size) c2)) (fun g hg hin => hne (by simp at hin; rw [← hin]; exact hg))
    have hl2 : (byteCells (m ++ s.data.toList)).length = m.length + s.size := by simp [byteCells]
    rw [hl2, byteCells_append]
    exact hr3
  · exact (hb1.trans ((Below.refl B w1).grown hg2 (Nat.le_trans hbB (Nat.le_of_lt hlt)) (fun k hk => (HH.out.2.2.1.lt k hk).1))).setCell (p := ⟨b, 1, none⟩) hbB _
  · exact (HKB.out.trans (keepsBut_grown HH.out.2.2.1 hg2)).trans (keepsBut_set1 _)
end Go.Proofs.YtpoocbkligjgbaaGreatDoor
