/-
  A leaf's items as bytes, there and back. (No walk.)
-/
import Derived.Test.YtpfifmjcmpankaaGreatMg2
import Derived.Test.YtpfifmjcmpankaaGreatMg13
namespace Go.Proofs.YtpfifmjcmpankaaGreat
open Go.RowKit Go.Lib

/-- The bytes of an item, of items; how many. -/
def itemB (x : Itm) : List UInt8 := textB x.key ++ ((if x.over = 0 then 0 else 1) :: (if x.over = 0 then textB x.val else varsB [x.over, x.size]))
def leafB (l : List Itm) : List UInt8 := l.flatMap itemB
def sz (l : List Itm) : Nat := (leafB l).length

/-- A right item. -/
def rightB (x : Itm) : Bool :=
  decide (1 ≤ x.key.size ∧ x.key.size ≤ 40) && if x.over = 0 then decide (x.size = 0 ∧ x.val.size ≤ 60) else decide (0 < x.over ∧ x.over ≤ 4294967295 ∧ 60 < x.size ∧ x.size ≤ 2000 ∧ x.val = ⟨#[]⟩)
def OKL (l : List Itm) : Prop := (∀ x ∈ l, rightB x = true) ∧ Rise l
instance (l : List Itm) : Decidable (OKL l) := by unfold OKL Rise; exact inferInstance
def putE (l : List Itm) : Int := if OKL l then (if sz l ≤ 240 then 0 else 2) else 1
def putB (l : List Itm) : List UInt8 := if OKL l ∧ sz l ≤ 240 then leafB l else []

theorem leafB_append (l m : List Itm) : leafB (l ++ m) = leafB l ++ leafB m := by simp [leafB]
theorem sz_append (l m : List Itm) : sz (l ++ m) = sz l + sz m := by simp [sz, leafB_append]
theorem sz_cons (x : Itm) (l : List Itm) : sz (x :: l) = (itemB x).length + sz l := by simp [sz, leafB]
theorem leafB_snoc (l : List Itm) (x : Itm) : leafB (l ++ [x]) = leafB l ++ itemB x := by simp [leafB]
theorem sz_snoc (l : List Itm) (x : Itm) : sz (l ++ [x]) = sz l + (itemB x).length := by simp [sz, leafB]
theorem sz_take (l : List Itm) (k : Nat) : sz (l.take k) ≤ sz l ∧ sz l = sz (l.take k) + sz (l.drop k) := by
  have : sz l = sz (l.take k) + sz (l.drop k) := by rw [← sz_append, List.take_append_drop]
  omega
theorem sz_mem {l : List Itm} {x : Itm} (h : x ∈ l) : (itemB x).length ≤ sz l := by
  obtain ⟨i, hi, rfl⟩ := List.getElem_of_mem h
  have h1 := (sz_take l i).2
  have h2 : sz (l.drop i) = (itemB l[i]).length + sz (l.drop (i + 1)) := by rw [List.drop_eq_getElem_cons hi, sz_cons]
  omega
theorem uv_pos (u : Nat) : 0 < (uvarint u).length := by
  by_cases h : u < 128
  · rw [uvarint_small h]; simp
  · rw [uvarint_big (by omega)]; simp
theorem textB_len (s : ByteArray) : s.size + 1 ≤ (textB s).length := by
  have := uv_pos (zigzag (s.size : Int))
  unfold textB
  rw [List.length_append]
  have h2 : s.data.toList.length = s.size := by simp
  omega
theorem textB_small {s : ByteArray} (h : s.size ≤ 63) : (textB s).length = s.size + 1 := by
  have h1 : zigzag (s.size : Int) < 128 := by unfold zigzag; rw [if_pos (by omega)]; omega
  have h2 : s.data.toList.length = s.size := by simp
  unfold textB
  rw [uvarint_small h1, List.length_append, h2, List.length_singleton]
  omega
theorem uv_len {u n : Nat} (h : u < 128 ^ n) (hn : 0 < n) : (uvarint u).length ≤ n := by
  induction n generalizing u with
  | zero => omega
  | succ n ih =>
    by_cases hu : u < 128
    · rw [uvarint_small hu]; simp
    · rw [uvarint_big (by omega)]
      have h1 : u / 128 < 128 ^ n := Nat.div_lt_of_lt_mul (by rw [Nat.pow_succ] at h; omega)
      have h2 : 0 < n := by
        rcases Nat.eq_zero_or_pos n with rfl | h3
        · simp at h; omega
        · exact h3
      have := ih h1 h2
      simp
      omega
theorem right_cases {x : Itm} (h : rightB x = true) : 1 ≤ x.key.size ∧ x.key.size ≤ 40 ∧ ((x.over = 0 ∧ x.size = 0 ∧ x.val.size ≤ 60) ∨ (0 < x.over ∧ x.over ≤ 4294967295 ∧ 60 < x.size ∧ x.size ≤ 2000 ∧ x.val = ⟨#[]⟩)) := by
  unfold rightB at h
  rw [Bool.and_eq_true, decide_eq_true_eq] at h
  obtain ⟨⟨h1, h2⟩, h3⟩ := h
  refine ⟨h1, h2, ?_⟩
  split at h3
  · rename_i h4
    have h5 := of_decide_eq_true h3
    exact .inl ⟨h4, h5.1, h5.2⟩
  · exact .inr (of_decide_eq_true h3)
/-- A right item has at most 103 bytes. -/
theorem right_len {x : Itm} (h : rightB x = true) : (itemB x).length ≤ 103 ∧ 2 ≤ (itemB x).length := by
  obtain ⟨h1, h2, h3⟩ := right_cases h
  have hk := textB_small (s := x.key) (by omega)
  unfold itemB
  rcases h3 with ⟨h4, h5, h6⟩ | ⟨h4, h5, h6, h7, h8⟩
  · rw [if_pos h4, if_pos h4]
    have hv := textB_small (s := x.val) (by omega)
    simp only [List.length_append, List.length_cons, hk, hv]
    omega
  · rw [if_neg (by omega), if_neg (by omega)]
    have e1 : (uvarint (zigzag x.over)).length ≤ 5 := uv_len (by unfold zigzag; rw [if_pos (by omega)]; have : (128 : Nat) ^ 5 = 34359738368 := by decide
                                                                 omega) (by omega)
    have e2 : (uvarint (zigzag x.size)).length ≤ 2 := uv_len (by unfold zigzag; rw [if_pos (by omega)]; have : (128 : Nat) ^ 2 = 16384 := by decide
                                                                 omega) (by omega)
    simp only [List.length_append, List.length_cons, hk, varsB, List.flatMap_cons, List.flatMap_nil, List.length_nil]
    omega
theorem right_sz {l : List Itm} (h : ∀ x ∈ l, rightB x = true) : sz l ≤ 103 * l.length := by
  induction l with
  | nil => simp [sz, leafB]
  | cons x l ih =>
    have h1 := (right_len (h x (by simp))).1
    have h2 := ih (fun y hy => h y (by simp [hy]))
    rw [sz_cons, List.length_cons]
    omega
theorem right_ok {x : Itm} (h : rightB x = true) : x.ok := by
  obtain ⟨h1, h2, h3⟩ := right_cases h
  unfold Itm.ok IsInt
  rcases h3 with ⟨h4, h5, h6⟩ | ⟨h4, h5, h6, h7, h8⟩
  · omega
  · have h9 : x.val.size = 0 := by rw [h8]; rfl
    omega

/-- What is read of an item's bytes: the item, what is left, the reader's error. -/
def gkey (b : List UInt8) : List UInt8 × List UInt8 × Int := rtext 40 b
def getItem (b : List UInt8) : Itm × List UInt8 × Int :=
  let k := rtext 40 b
  if k.2.2 ≠ 0 then (⟨⟨#[]⟩, ⟨#[]⟩, 0, 0⟩, k.2.1, k.2.2) else
  let e := rbool k.2.1
  if e.2.2 ≠ 0 then (⟨⟨k.1.toArray⟩, ⟨#[]⟩, 0, 0⟩, e.2.1, e.2.2) else
  if e.1 = true then
    let o := rvar e.2.1
    if o.2.2 ≠ 0 then (⟨⟨k.1.toArray⟩, ⟨#[]⟩, 0, 0⟩, o.2.1, o.2.2) else
    let s := rvar o.2.1
    (⟨⟨k.1.toArray⟩, ⟨#[]⟩, o.1, s.1⟩, s.2.1, s.2.2)
  else
    let v := rtext 60 e.2.1
    (⟨⟨k.1.toArray⟩, ⟨v.1.toArray⟩, 0, 0⟩, v.2.1, v.2.2)

theorem eta2 (x : ByteArray) : (⟨x.data.toList.toArray⟩ : ByteArray) = x := by
  apply ByteArray.ext
  simp
/-- What Put lays of a right item is read as it was. -/
theorem getItem_laid {x : Itm} (h : rightB x = true) (rest : List UInt8) : getItem (itemB x ++ rest) = (x, rest, 0) := by
  obtain ⟨h1, h2, h3⟩ := right_cases h
  unfold itemB
  rw [List.append_assoc]
  have hk := rtext_laid (s := x.key) (most := 40) (by omega) (by omega)
  rcases h3 with ⟨h4, h5, h6⟩ | ⟨h4, h5, h6, h7, h8⟩
  · rw [if_pos h4, if_pos h4]
    have hb := rbool_laid false (textB x.val ++ rest)
    have hv := rtext_laid (s := x.val) (most := 60) (by omega) (by omega) rest
    simp only [Bool.false_eq_true, if_false] at hb
    unfold getItem
    simp only [List.cons_append, hk, hb, hv, ne_eq, not_true, if_false, Bool.false_eq_true]
    obtain ⟨a, b, c, d⟩ := x
    simp only at h4 h5
    subst h4 h5
    simp only [eta2]
  · rw [if_neg (by omega), if_neg (by omega)]
    have hb := rbool_laid true (varsB [x.over, x.size] ++ rest)
    have hv := rvar_laid (v := x.over) ⟨by omega, by omega⟩ (uvarint (zigzag x.size) ++ rest)
    have hs := rvar_laid (v := x.size) ⟨by omega, by omega⟩ rest
    have e1 : varsB [x.over, x.size] ++ rest = uvarint (zigzag x.over) ++ (uvarint (zigzag x.size) ++ rest) := by simp [varsB]
    simp only [if_true] at hb
    rw [e1] at hb
    unfold getItem
    simp only [List.cons_append, hk, e1, hb, hv, hs, ne_eq, not_true, if_false, if_true]
    obtain ⟨a, b, c, d⟩ := x
    simp only at h8
    subst h8
    simp only [eta2]

/-- What is laid of right items begins with the same items. -/
theorem leafB_prefix : ∀ {l m : List Itm} {rest : List UInt8}, (∀ x ∈ l, rightB x = true) → (∀ x ∈ m, rightB x = true) → leafB l ++ rest = leafB m → l.length ≤ m.length ∧ l = m.take l.length
  | [], m, _, _, _, _ => by simp
  | x :: l, [], rest, hl, _, h => by
    have h1 := (right_len (hl x (by simp))).2
    have h2 := congrArg List.length h
    simp only [leafB, List.flatMap_cons, List.flatMap_nil, List.length_append, List.length_nil] at h2
    omega
  | x :: l, y :: m, rest, hl, hm, h => by
    have e1 := getItem_laid (hl x (by simp)) (leafB l ++ rest)
    have e2 := getItem_laid (hm y (by simp)) (leafB m)
    have h' : itemB x ++ (leafB l ++ rest) = itemB y ++ leafB m := by simpa [leafB] using h
    rw [h', e2] at e1
    simp only [Prod.mk.injEq] at e1
    obtain ⟨h3, h4⟩ := leafB_prefix (fun z hz => hl z (by simp [hz])) (fun z hz => hm z (by simp [hz])) e1.2.1.symm
    simp only [List.length_cons, List.take_succ_cons]
    exact ⟨by omega, by rw [← e1.1, ← h4]⟩
theorem leafB_inj {l m : List Itm} (hl : ∀ x ∈ l, rightB x = true) (hm : ∀ x ∈ m, rightB x = true) (h : leafB l = leafB m) : l = m := by
  obtain ⟨h1, h2⟩ := leafB_prefix (rest := []) hl hm (by simpa using h)
  obtain ⟨h3, _⟩ := leafB_prefix (rest := []) hm hl (by simpa using h.symm)
  rw [h2, List.take_of_length_le h3]

/-- The items of some bytes, if they are what Put lays of items. -/
def IsLeaf (b : List UInt8) (l : List Itm) : Prop := OKL l ∧ sz l ≤ 240 ∧ leafB l = b
/-- How Get goes on: of the bytes b, with items l read already. -/
def gets : Nat → List UInt8 → Option (List Itm)
  | 0, _ => none
  | n + 1, b => if b = [] then some [] else if (getItem b).2.2 ≠ 0 then none else (gets n (getItem b).2.1).map ((getItem b).1 :: ·)
theorem gets_laid : ∀ (l : List Itm) (n : Nat), (∀ x ∈ l, rightB x = true) → l.length < n → gets n (leafB l) = some l
  | [], n + 1, _, _ => by simp [gets, leafB]
  | x :: l, n + 1, h, hn => by
    have e := getItem_laid (h x (by simp)) (leafB l)
    have h1 := (right_len (h x (by simp))).2
    have hne : itemB x ++ leafB l ≠ [] := by
      intro h2
      have := congrArg List.length h2
      rw [List.length_append, List.length_nil] at this
      omega
    show gets (n + 1) (itemB x ++ leafB l) = _
    rw [gets, if_neg hne, e]
    simp only [ne_eq, not_true, if_false]
    rw [gets_laid l n (fun z hz => h z (by simp [hz])) (by simp at hn; omega)]
    rfl
  | [], 0, _, h => by omega
  | _ :: _, 0, _, h => by omega
/-- Size's least, as Split takes it. -/
def grOf (l : List Itm) (k : Nat) : Nat := max (sz (l.take k)) (sz l - sz (l.take k))
def bestTo (l : List Itm) : Nat → Nat × Nat
  | 0 => (sz l + 1, 0)
  | k + 1 => if grOf l (k + 1) < (bestTo l k).1 then (grOf l (k + 1), k + 1) else bestTo l k
def halfL (l : List Itm) : Nat := if l.length < 2 then l.length else (bestTo l (l.length - 1)).2
theorem bestTo_le (l : List Itm) : ∀ k, (bestTo l k).1 ≤ sz l + 1 ∧ (bestTo l k).2 ≤ k
  | 0 => by simp [bestTo]
  | k + 1 => by
    have h := bestTo_le l k
    unfold bestTo
    split
    · simp only; omega
    · omega
theorem bestTo_least (l : List Itm) : ∀ k j, 1 ≤ j → j ≤ k → (bestTo l k).1 ≤ grOf l j
  | 0, j, h, h2 => by omega
  | k + 1, j, h, h2 => by
    unfold bestTo
    by_cases e : j = k + 1
    · subst e
      split
      · exact Nat.le_refl _
      · omega
    · have := bestTo_least l k j h (by omega)
      split
      · simp only; omega
      · exact this
theorem grOf_le (l : List Itm) (k : Nat) : grOf l k ≤ sz l := by
  have := sz_take l k
  unfold grOf
  omega
theorem bestTo_is (l : List Itm) : ∀ k, 1 ≤ k → 1 ≤ (bestTo l k).2 ∧ (bestTo l k).1 = grOf l (bestTo l k).2
  | 0, h => by omega
  | 1, _ => by
    have := grOf_le l 1
    unfold bestTo
    rw [if_pos (show grOf l (0 + 1) < (bestTo l 0).1 by show grOf l 1 < sz l + 1; omega)]
    exact ⟨Nat.le_refl _, rfl⟩
  | k + 2, _ => by
    have h := bestTo_is l (k + 1) (by omega)
    rw [bestTo]
    split
    · simp
    · exact h
theorem half_in {l : List Itm} (h : 2 ≤ l.length) : 1 ≤ halfL l ∧ halfL l < l.length ∧ ∀ j, 1 ≤ j → j < l.length → grOf l (halfL l) ≤ grOf l j := by
  unfold halfL
  rw [if_neg (by omega)]
  have h1 := bestTo_is l (l.length - 1) (by omega)
  have h2 := (bestTo_le l (l.length - 1)).2
  refine ⟨h1.1, by omega, fun j hj hl => ?_⟩
  rw [← h1.2]
  exact bestTo_least l _ j hj (by omega)
theorem half_le (l : List Itm) : halfL l ≤ l.length := by
  by_cases h : l.length < 2
  · unfold halfL; rw [if_pos h]; exact Nat.le_refl _
  · have := (half_in (l := l) (by omega)).2.1
    omega
/-- P803: of right items that are one more than fit both parts fit. -/
theorem half_fits {l : List Itm} (hr : ∀ x ∈ l, rightB x = true) (h1 : 240 < sz l) (h2 : sz l ≤ 343) : 2 ≤ l.length ∧ sz (l.take (halfL l)) ≤ 240 ∧ sz (l.drop (halfL l)) ≤ 240 := by
  have hlen : ∃ k, k < l.length ∧ sz (l.take k) ≤ 240 ∧ 240 < sz (l.take (k + 1)) := by
    have hz : sz (l.take 0) ≤ 240 := by simp [sz, leafB]
    have hn : 240 < sz (l.take l.length) := by rw [List.take_length]; exact h1
    have : ∀ n, 240 < sz (l.take n) → ∃ k, k < n ∧ sz (l.take k) ≤ 240 ∧ 240 < sz (l.take (k + 1)) := by
      intro n
      induction n with
      | zero => intro h; omega
      | succ n ih =>
        intro h
        by_cases h3 : sz (l.take n) ≤ 240
        · exact ⟨n, by omega, h3, h⟩
        · obtain ⟨k, hk, h4⟩ := ih (by omega)
          exact ⟨k, by omega, h4⟩
    exact this _ hn
  obtain ⟨k, hk, h3, h4⟩ := hlen
  have h5 := (right_len (hr l[k] (by simp))).1
  have h6 : sz (l.take (k + 1)) = sz (l.take k) + (itemB l[k]).length := by rw [take_snoc1 l k hk, sz_snoc]
  have h7 : 1 ≤ k := by
    rcases Nat.eq_zero_or_pos k with rfl | h8
    · have : sz (l.take 0) = 0 := by simp [sz, leafB]
      omega
    · exact h8
  have h8 := half_in (l := l) (by omega)
  have h9 := h8.2.2 k h7 hk
  have h10 := (sz_take l k).2
  have h11 := (sz_take l (halfL l)).2
  unfold grOf at h9
  omega
end Go.Proofs.YtpfifmjcmpankaaGreat
