/-
  A branch's children as bytes, there and back. (No walk.)
-/
import Derived.Test.YtpfifmjcmpankaaGreatMg2
import Derived.Test.YtpfifmjcmpankaaGreatMg14
namespace Go.Proofs.YtpfifmjcmpankaaGreat.BR
open Go.RowKit Go.Lib

/-- The bytes of a child, of children; how many. -/
def itemB (x : Chd) : List UInt8 := textB x.key ++ uvarint (zigzag x.page)
def leafB (l : List Chd) : List UInt8 := l.flatMap itemB
def sz (l : List Chd) : Nat := (leafB l).length

/-- A right child, wherever it stands. -/
def rightB (x : Chd) : Bool := decide (2 ≤ x.page ∧ x.page ≤ 4294967295 ∧ x.key.size ≤ 40)
def OKL (l : List Chd) : Prop := (l.head?.map Chd.key = some ⟨#[]⟩) ∧ (∀ x ∈ l, rightB x = true) ∧ Rise l
instance (l : List Chd) : Decidable (OKL l) := by unfold OKL Rise; exact inferInstance
def putE (l : List Chd) : Int := if OKL l then (if sz l ≤ 240 then 0 else 2) else 1
def putB (l : List Chd) : List UInt8 := if OKL l ∧ sz l ≤ 240 then leafB l else []
theorem putE_ok {l : List Chd} (h : putE l = 0) : OKL l ∧ sz l ≤ 240 := by
  unfold putE at h
  split at h
  · rename_i h1
    split at h
    · rename_i h2; exact ⟨h1, h2⟩
    · simp at h
  · simp at h
theorem OKL.zero {l : List Chd} (h : OKL l) : ∃ c r, l = c :: r ∧ c.key = ⟨#[]⟩ := by
  cases l with
  | nil => have := h.1; simp at this
  | cons c r => exact ⟨c, r, rfl, by have := h.1; simpa using this⟩
theorem OKL.pos {l : List Chd} (h : OKL l) : 0 < l.length := by
  obtain ⟨c, r, rfl, _⟩ := h.zero
  simp
theorem OKL.head {l : List Chd} (h : OKL l) (h0 : 0 < l.length) : l[0].key = ⟨#[]⟩ := by
  obtain ⟨c, r, rfl, hc⟩ := h.zero
  exact hc
theorem okl_is {l : List Chd} (h0 : 0 < l.length) (h1 : l[0].key = ⟨#[]⟩) (h2 : ∀ x ∈ l, rightB x = true) (h3 : Rise l) : OKL l := by
  refine ⟨?_, h2, h3⟩
  cases l with
  | nil => simp at h0
  | cons c r => simpa using h1

theorem leafB_append (l m : List Chd) : leafB (l ++ m) = leafB l ++ leafB m := by simp [leafB]
theorem sz_append (l m : List Chd) : sz (l ++ m) = sz l + sz m := by simp [sz, leafB_append]
theorem sz_cons (x : Chd) (l : List Chd) : sz (x :: l) = (itemB x).length + sz l := by simp [sz, leafB]
theorem leafB_snoc (l : List Chd) (x : Chd) : leafB (l ++ [x]) = leafB l ++ itemB x := by simp [leafB]
theorem sz_snoc (l : List Chd) (x : Chd) : sz (l ++ [x]) = sz l + (itemB x).length := by simp [sz, leafB]
theorem sz_take (l : List Chd) (k : Nat) : sz (l.take k) ≤ sz l ∧ sz l = sz (l.take k) + sz (l.drop k) := by
  have : sz l = sz (l.take k) + sz (l.drop k) := by rw [← sz_append, List.take_append_drop]
  omega
theorem sz_mem {l : List Chd} {x : Chd} (h : x ∈ l) : (itemB x).length ≤ sz l := by
  obtain ⟨i, hi, rfl⟩ := List.getElem_of_mem h
  have h1 := (sz_take l i).2
  have h2 : sz (l.drop i) = (itemB l[i]).length + sz (l.drop (i + 1)) := by rw [List.drop_eq_getElem_cons hi, sz_cons]
  omega
theorem right_cases {x : Chd} (h : rightB x = true) : 2 ≤ x.page ∧ x.page ≤ 4294967295 ∧ x.key.size ≤ 40 := of_decide_eq_true h
theorem item_two (x : Chd) : 2 ≤ (itemB x).length := by
  have h1 := textB_len x.key
  have h2 := uv_pos (zigzag x.page)
  unfold itemB
  rw [List.length_append]
  omega
/-- A right child has at most 46 bytes. -/
theorem right_len {x : Chd} (h : rightB x = true) : (itemB x).length ≤ 46 ∧ 2 ≤ (itemB x).length := by
  obtain ⟨h1, h2, h3⟩ := right_cases h
  have hk := textB_small (s := x.key) (by omega)
  refine ⟨?_, item_two x⟩
  unfold itemB
  have e1 : (uvarint (zigzag x.page)).length ≤ 5 := uv_len (by unfold zigzag; rw [if_pos (by omega)]; have : (128 : Nat) ^ 5 = 34359738368 := by decide
                                                               omega) (by omega)
  simp only [List.length_append, hk]
  omega
theorem right_sz {l : List Chd} (h : ∀ x ∈ l, rightB x = true) : sz l ≤ 46 * l.length := by
  induction l with
  | nil => simp [sz, leafB]
  | cons x l ih =>
    have h1 := (right_len (h x (by simp))).1
    have h2 := ih (fun y hy => h y (by simp [hy]))
    rw [sz_cons, List.length_cons]
    omega
theorem right_ok {x : Chd} (h : rightB x = true) : x.ok := by
  obtain ⟨h1, h2, h3⟩ := right_cases h
  unfold Chd.ok IsInt
  omega

/-- What is read of a child's bytes: the child, what is left, the reader's error. -/
def getItem (b : List UInt8) : Chd × List UInt8 × Int :=
  let k := rtext 40 b
  if k.2.2 ≠ 0 then (⟨⟨k.1.toArray⟩, 0⟩, k.2.1, k.2.2) else
  let v := rvar k.2.1
  (⟨⟨k.1.toArray⟩, v.1⟩, v.2.1, v.2.2)
/-- What Put lays of a right child is read as it was. -/
theorem getItem_laid {x : Chd} (h : rightB x = true) (rest : List UInt8) : getItem (itemB x ++ rest) = (x, rest, 0) := by
  obtain ⟨h1, h2, h3⟩ := right_cases h
  unfold itemB
  rw [List.append_assoc]
  have hk := rtext_laid (s := x.key) (most := 40) (by omega) (by omega) (uvarint (zigzag x.page) ++ rest)
  have hv := rvar_laid (v := x.page) ⟨by omega, by omega⟩ rest
  unfold getItem
  simp only [hk, hv, ne_eq, not_true, if_false]

/-- What is laid of right children begins with the same children. -/
theorem leafB_prefix : ∀ {l m : List Chd} {rest : List UInt8}, (∀ x ∈ l, rightB x = true) → (∀ x ∈ m, rightB x = true) → leafB l ++ rest = leafB m → l.length ≤ m.length ∧ l = m.take l.length
  | [], m, _, _, _, _ => by simp
  | x :: l, [], rest, hl, _, h => by
    have h1 := (right_len (hl x (by simp))).2
    have h2 := congrArg List.length h
    simp only [leafB, List.flatMap_cons, List.flatMap_nil, List.length_append, List.length_nil] at h2
    omega
  | x :: l, y :: m, rest, hl, hm, h => by
    have e1 := getItem_laid (hl x (by simp)) (leafB l ++ rest)
    have e2 := getItem_laid (hm y (by simp)) (leafB m)
    have h' : itemB x ++ (leafB l ++ rest) = itemB y ++ leafB m := by simpa [leafB] using h
    rw [h', e2] at e1
    simp only [Prod.mk.injEq] at e1
    obtain ⟨h3, h4⟩ := leafB_prefix (fun z hz => hl z (by simp [hz])) (fun z hz => hm z (by simp [hz])) e1.2.1.symm
    simp only [List.length_cons, List.take_succ_cons]
    exact ⟨by omega, by rw [← e1.1, ← h4]⟩
theorem leafB_inj {l m : List Chd} (hl : ∀ x ∈ l, rightB x = true) (hm : ∀ x ∈ m, rightB x = true) (h : leafB l = leafB m) : l = m := by
  obtain ⟨h1, h2⟩ := leafB_prefix (rest := []) hl hm (by simpa using h)
  obtain ⟨h3, _⟩ := leafB_prefix (rest := []) hm hl (by simpa using h.symm)
  rw [h2, List.take_of_length_le h3]

/-- The children of some bytes, if they are what Put lays of children. -/
def IsLeaf (b : List UInt8) (l : List Chd) : Prop := OKL l ∧ sz l ≤ 240 ∧ leafB l = b
/-- Size's least, as Split takes it. -/
def grOf (l : List Chd) (k : Nat) : Nat := max (sz (l.take k)) (sz l - sz (l.take k))
def bestTo (l : List Chd) : Nat → Nat × Nat
  | 0 => (sz l + 1, 0)
  | k + 1 => if grOf l (k + 1) < (bestTo l k).1 then (grOf l (k + 1), k + 1) else bestTo l k
def halfL (l : List Chd) : Nat := if l.length < 2 then l.length else (bestTo l (l.length - 1)).2
theorem bestTo_le (l : List Chd) : ∀ k, (bestTo l k).1 ≤ sz l + 1 ∧ (bestTo l k).2 ≤ k
  | 0 => by simp [bestTo]
  | k + 1 => by
    have h := bestTo_le l k
    unfold bestTo
    split
    · simp only; omega
    · omega
theorem bestTo_least (l : List Chd) : ∀ k j, 1 ≤ j → j ≤ k → (bestTo l k).1 ≤ grOf l j
  | 0, j, h, h2 => by omega
  | k + 1, j, h, h2 => by
    unfold bestTo
    by_cases e : j = k + 1
    · subst e
      split
      · exact Nat.le_refl _
      · omega
    · have := bestTo_least l k j h (by omega)
      split
      · simp only; omega
      · exact this
theorem grOf_le (l : List Chd) (k : Nat) : grOf l k ≤ sz l := by
  have := sz_take l k
  unfold grOf
  omega
theorem bestTo_is (l : List Chd) : ∀ k, 1 ≤ k → 1 ≤ (bestTo l k).2 ∧ (bestTo l k).1 = grOf l (bestTo l k).2
  | 0, h => by omega
  | 1, _ => by
    have := grOf_le l 1
    unfold bestTo
    rw [if_pos (show grOf l (0 + 1) < (bestTo l 0).1 by show grOf l 1 < sz l + 1; omega)]
    exact ⟨Nat.le_refl _, rfl⟩
  | k + 2, _ => by
    have h := bestTo_is l (k + 1) (by omega)
    rw [bestTo]
    split
    · simp
    · exact h
theorem half_in {l : List Chd} (h : 2 ≤ l.length) : 1 ≤ halfL l ∧ halfL l < l.length ∧ ∀ j, 1 ≤ j → j < l.length → grOf l (halfL l) ≤ grOf l j := by
  unfold halfL
  rw [if_neg (by omega)]
  have h1 := bestTo_is l (l.length - 1) (by omega)
  have h2 := (bestTo_le l (l.length - 1)).2
  refine ⟨h1.1, by omega, fun j hj hl => ?_⟩
  rw [← h1.2]
  exact bestTo_least l _ j hj (by omega)
theorem half_le (l : List Chd) : halfL l ≤ l.length := by
  by_cases h : l.length < 2
  · unfold halfL; rw [if_pos h]; exact Nat.le_refl _
  · have := (half_in (l := l) (by omega)).2.1
    omega
/-- P903: of right children that are one more than fit both parts fit. -/
theorem half_fits {l : List Chd} (hr : ∀ x ∈ l, rightB x = true) (h1 : 240 < sz l) (h2 : sz l ≤ 286) : 2 ≤ l.length ∧ sz (l.take (halfL l)) ≤ 240 ∧ sz (l.drop (halfL l)) ≤ 240 := by
  have hlen : ∃ k, k < l.length ∧ sz (l.take k) ≤ 240 ∧ 240 < sz (l.take (k + 1)) := by
    have hz : sz (l.take 0) ≤ 240 := by simp [sz, leafB]
    have hn : 240 < sz (l.take l.length) := by rw [List.take_length]; exact h1
    have : ∀ n, 240 < sz (l.take n) → ∃ k, k < n ∧ sz (l.take k) ≤ 240 ∧ 240 < sz (l.take (k + 1)) := by
      intro n
      induction n with
      | zero => intro h; omega
      | succ n ih =>
        intro h
        by_cases h3 : sz (l.take n) ≤ 240
        · exact ⟨n, by omega, h3, h⟩
        · obtain ⟨k, hk, h4⟩ := ih (by omega)
          exact ⟨k, by omega, h4⟩
    exact this _ hn
  obtain ⟨k, hk, h3, h4⟩ := hlen
  have h5 := (right_len (hr l[k] (by simp))).1
  have h6 : sz (l.take (k + 1)) = sz (l.take k) + (itemB l[k]).length := by rw [take_snoc1 l k hk, sz_snoc]
  have h7 : 1 ≤ k := by
    rcases Nat.eq_zero_or_pos k with rfl | h8
    · have : sz (l.take 0) = 0 := by simp [sz, leafB]
      omega
    · exact h8
  have h8 := half_in (l := l) (by omega)
  have h9 := h8.2.2 k h7 hk
  have h10 := (sz_take l k).2
  have h11 := (sz_take l (halfL l)).2
  unfold grOf at h9
  omega
theorem okl_take {l : List Chd} (h : OKL l) {n : Nat} (h0 : 0 < n) : OKL (l.take n) := by
  obtain ⟨c, r, rfl, hc⟩ := h.zero
  obtain ⟨m, rfl⟩ : ∃ m, n = m + 1 := ⟨n - 1, by omega⟩
  exact ⟨by simpa using hc, fun x hx => h.2.1 x (List.mem_of_mem_take hx), h.2.2.take _⟩
/-- The second part, its first key taken off. -/
theorem okl_off {l : List Chd} (h1 : ∀ x ∈ l, rightB x = true) (h2 : Rise l) (h0 : 0 < l.length) : OKL (first l) := by
  cases l with
  | nil => simp at h0
  | cons c r =>
    refine ⟨rfl, fun x hx => ?_, ?_⟩
    · rcases List.mem_cons.1 hx with rfl | hx
      · obtain ⟨a, b, _⟩ := right_cases (h1 c (by simp))
        unfold rightB
        exact decide_eq_true ⟨a, b, by show (0 : Nat) ≤ 40; omega⟩
      · exact h1 x (by simp [hx])
    · unfold Rise at h2 ⊢
      rw [first, List.pairwise_cons]
      rw [List.pairwise_cons] at h2
      exact ⟨fun y hy => lt_empty (lt_of_empty (h2.1 y hy)), h2.2⟩
theorem sz_first (l : List Chd) : sz (first l) ≤ sz l := by
  cases l with
  | nil => exact Nat.le_refl _
  | cons c r =>
    rw [first, sz_cons, sz_cons]
    have h1 := textB_len c.key
    have h2 := textB_small (s := ⟨#[]⟩) (by decide)
    have h3 : (⟨#[]⟩ : ByteArray).size = 0 := rfl
    unfold itemB
    simp only [List.length_append]
    omega
end Go.Proofs.YtpfifmjcmpankaaGreat.BR
