/-
  A branch's children as lists: the order of keys, below which child a key stands, what is put in the place of one. (No walk.)
-/
import Derived.Test.YtpfifmjcmpankaaLM1
namespace Go.Proofs.Ytpfifmjcmpankaa.BR
open Go.RowKit Go.Lib

/-- A child. -/
structure Chd where
  key : ByteArray
  page : Int
def Chd.ok (x : Chd) : Prop := x.key.size ≤ 9223372036854775807 ∧ IsInt x.page

/-- The keys rise strictly. -/
def Rise (l : List Chd) : Prop := l.Pairwise fun a b => ltK a.key b.key = true
instance (l : List Chd) : Decidable (Rise l) := by unfold Rise; exact inferInstance
theorem Rise.at {l : List Chd} (h : Rise l) {i j : Nat} (hij : i < j) (hj : j < l.length) : ltK (l[i]'(by omega)).key l[j].key = true :=
  List.pairwise_iff_getElem.1 h i j (by omega) hj hij
theorem rise_next {l : List Chd} (h : ∀ i (hi : i + 1 < l.length), ltK (l[i]'(by omega)).key l[i + 1].key = true) : Rise l := by
  unfold Rise
  rw [List.pairwise_iff_getElem]
  intro i j hi hj hij
  induction j with
  | zero => omega
  | succ j ih =>
    by_cases e : i = j
    · subst e; exact h i hj
    · exact ltK_trans (ih (by omega) (by omega)) (h j hj)
theorem Rise.take {l : List Chd} (h : Rise l) (n : Nat) : Rise (l.take n) := List.Pairwise.sublist (List.take_sublist n l) h
theorem Rise.drop {l : List Chd} (h : Rise l) (n : Nat) : Rise (l.drop n) := List.Pairwise.sublist (List.drop_sublist n l) h
theorem rise_take {l : List Chd} {k : Nat} (hk : k < l.length) (h : Rise (l.take k)) (h1 : ∀ h : 0 < k, ltK (l[k - 1]'(by omega)).key l[k].key = true) : Rise (l.take (k + 1)) := by
  refine rise_next fun i hi => ?_
  simp only [List.length_take] at hi
  rw [List.getElem_take, List.getElem_take]
  by_cases e : i + 1 = k
  · subst e
    exact h1 (by omega)
  · have := h.at (i := i) (j := i + 1) (by omega) (by simp; omega)
    rwa [List.getElem_take, List.getElem_take] at this

/-- The empty key is less than all others. -/
theorem lt_empty {k : ByteArray} (h : k ≠ ⟨#[]⟩) : ltK ⟨#[]⟩ k = true := by
  unfold ltK
  rw [Lib.toList_data, Lib.toList_data]
  cases e : k.data.toList with
  | nil =>
    refine absurd (ByteArray.ext ?_) h
    exact Array.toList_inj.1 e
  | cons a l => rfl
theorem lt_of_empty {a b : ByteArray} (h : ltK a b = true) : b ≠ ⟨#[]⟩ := by
  rintro rfl
  unfold ltK at h
  rw [Lib.toList_data, Lib.toList_data] at h
  cases e : a.data.toList with
  | nil => rw [e] at h; cases h
  | cons c l => rw [e] at h; cases h

/-- Of children whose keys rise behind the first one: how many behind the first have a key that is not above k. So it is the place below which k stands. -/
def fnd (l : List Chd) (k : ByteArray) : Nat := ((l.drop 1).takeWhile fun x => !ltK k x.key).length
theorem fnd_le (l : List Chd) (k : ByteArray) : fnd l k ≤ l.length - 1 := by
  have := (List.takeWhile_sublist (fun x : Chd => !ltK k x.key) (l := l.drop 1)).length_le
  unfold fnd
  rw [List.length_drop] at this
  omega
theorem tw_below {p : Chd → Bool} : ∀ {l : List Chd} {i : Nat} (_ : i < (l.takeWhile p).length) (hi : i < l.length), p l[i] = true
  | [], _, h, hi => by simp at hi
  | a :: l, i, h, hi => by
    rw [List.takeWhile_cons] at h
    by_cases hc : p a = true
    · rw [if_pos hc] at h
      cases i with
      | zero => exact hc
      | succ i => exact tw_below (l := l) (by simpa using h) (by simpa using hi)
    · rw [if_neg hc] at h
      simp at h
theorem tw_at {p : Chd → Bool} : ∀ {l : List Chd} (h : (l.takeWhile p).length < l.length), p l[(l.takeWhile p).length] = false
  | [], h => by simp at h
  | a :: l, h => by
    by_cases hc : p a = true
    · have e : ((a :: l).takeWhile p).length = (l.takeWhile p).length + 1 := by rw [List.takeWhile_cons, if_pos hc]; rfl
      have h' : (l.takeWhile p).length < l.length := by rw [e] at h; simpa using h
      simp only [e, List.getElem_cons_succ]
      exact tw_at h'
    · have e : ((a :: l).takeWhile p).length = 0 := by rw [List.takeWhile_cons, if_neg hc]; rfl
      simp only [e, List.getElem_cons_zero]
      simpa using hc
theorem fnd_below {l : List Chd} {k : ByteArray} {i : Nat} (h1 : 1 ≤ i) (h : i ≤ fnd l k) (hi : i < l.length) : ltK k l[i].key = false := by
  obtain ⟨j, rfl⟩ : ∃ j, i = j + 1 := ⟨i - 1, by omega⟩
  have h2 : j < (l.drop 1).length := by rw [List.length_drop]; omega
  have h3 := tw_below (p := fun x : Chd => !ltK k x.key) (l := l.drop 1) (i := j) (by unfold fnd at h; omega) h2
  rw [List.getElem_drop] at h3
  simp only [Nat.add_comm 1 j] at h3
  simpa using h3
theorem fnd_at {l : List Chd} {k : ByteArray} (h : fnd l k + 1 < l.length) : ltK k l[fnd l k + 1].key = true := by
  have h2 : ((l.drop 1).takeWhile fun x => !ltK k x.key).length < (l.drop 1).length := by rw [List.length_drop]; unfold fnd at h; omega
  have h3 := tw_at (p := fun x : Chd => !ltK k x.key) (l := l.drop 1) h2
  rw [List.getElem_drop] at h3
  have e : 1 + ((l.drop 1).takeWhile fun x => !ltK k x.key).length = fnd l k + 1 := by unfold fnd; omega
  simp only [e] at h3
  simpa using h3
theorem fnd_above {l : List Chd} (hr : Rise (l.drop 1)) {k : ByteArray} {i : Nat} (h : fnd l k < i) (hi : i < l.length) : ltK k l[i].key = true := by
  by_cases e : fnd l k + 1 = i
  · subst e; exact fnd_at hi
  · have h1 := hr.at (i := fnd l k) (j := i - 1) (by omega) (by rw [List.length_drop]; omega)
    rw [List.getElem_drop, List.getElem_drop] at h1
    have e1 : 1 + fnd l k = fnd l k + 1 := by omega
    have e2 : 1 + (i - 1) = i := by omega
    simp only [e1, e2] at h1
    exact ltK_trans (fnd_at (by omega)) h1
theorem fnd_is {l : List Chd} {k : ByteArray} {m : Nat} (hm : m ≤ l.length - 1) (h1 : ∀ i (hi : i < l.length), 1 ≤ i → i ≤ m → ltK k l[i].key = false) (h2 : ∀ h : m + 1 < l.length, ltK k l[m + 1].key = true) : fnd l k = m := by
  have h3 := fnd_le l k
  rcases Nat.lt_trichotomy (fnd l k) m with h | h | h
  · have := fnd_at (l := l) (k := k) (by omega)
    rw [h1 _ (by omega) (by omega) (by omega)] at this
    cases this
  · exact h
  · have := fnd_below (l := l) (k := k) (i := m + 1) (by omega) (by omega) (by omega)
    rw [h2 (by omega)] at this
    cases this
/-- Of children that rise, a child's own key stands at its place. -/
theorem fnd_self {l : List Chd} (hr : Rise l) {i : Nat} (hi : i < l.length) : fnd l l[i].key = i := by
  refine fnd_is (by omega) (fun j hj h1 hji => ?_) (fun h => hr.at (by omega) h)
  rcases Nat.lt_or_ge j i with h | h
  · exact ltK_asymm (hr.at h hi)
  · obtain rfl : j = i := by omega
    exact ltK_irrefl _

/-- The first of all has the empty key. -/
def first : List Chd → List Chd
  | [] => []
  | c :: r => ⟨⟨#[]⟩, c.page⟩ :: r
theorem first_len (l : List Chd) : (first l).length = l.length := by cases l <;> rfl
theorem first_at {l : List Chd} {i : Nat} (h : i < l.length) : (first l)[i]'(by rw [first_len]; exact h) = if i = 0 then ⟨⟨#[]⟩, l[i].page⟩ else l[i] := by
  cases l with
  | nil => simp at h
  | cons c r =>
    cases i with
    | zero => rfl
    | succ i => simp [first]
theorem first_same {l : List Chd} (h : ∀ h : 0 < l.length, l[0].key = ⟨#[]⟩) : first l = l := by
  cases l with
  | nil => rfl
  | cons c r =>
    have := h (by simp)
    obtain ⟨k, p⟩ := c
    simp only [List.getElem_cons_zero] at this
    subst this
    rfl
/-- Children in the place of one. -/
def rawL (l : List Chd) (i : Nat) (x : List Chd) : List Chd := l.take i ++ (x ++ l.drop (i + 1))
def replL (l : List Chd) (i : Int) (x : List Chd) : List Chd := if 0 ≤ i ∧ i < l.length then first (rawL l i.toNat x) else l
theorem rawL_len {l : List Chd} {i : Nat} (h : i < l.length) (x : List Chd) : (rawL l i x).length = l.length - 1 + x.length := by
  unfold rawL
  simp
  omega
theorem replL_len (l : List Chd) (i : Int) (x : List Chd) : (replL l i x).length ≤ l.length + x.length := by
  unfold replL
  split
  · rename_i h
    rw [first_len, rawL_len (by omega)]
    omega
  · omega
theorem rawL_low {l : List Chd} {i : Nat} (h : i < l.length) (x : List Chd) {k : Nat} (hk : k < i) : (rawL l i x)[k]'(by rw [rawL_len h]; omega) = l[k] := by
  unfold rawL
  rw [List.getElem_append_left (by simp; omega), List.getElem_take]
theorem rawL_mid {l : List Chd} {i : Nat} (h : i < l.length) (x : List Chd) {k : Nat} (h1 : i ≤ k) (h2 : k < i + x.length) : (rawL l i x)[k]'(by rw [rawL_len h]; omega) = x[k - i] := by
  have ht : (l.take i).length = i := by simp; omega
  unfold rawL
  rw [List.getElem_append_right (by omega), List.getElem_append_left (by omega)]
  simp only [ht]
theorem rawL_high {l : List Chd} {i : Nat} (h : i < l.length) (x : List Chd) {k : Nat} (h1 : i + x.length ≤ k) (h2 : k < l.length - 1 + x.length) : (rawL l i x)[k]'(by rw [rawL_len h]; omega) = l[k - x.length + 1] := by
  have ht : (l.take i).length = i := by simp; omega
  unfold rawL
  rw [List.getElem_append_right (by omega), List.getElem_append_right (by omega), List.getElem_drop]
  simp only [ht]
  congr 1
  omega
theorem replL_in {l : List Chd} {i : Nat} (h : i < l.length) (x : List Chd) : replL l i x = first (rawL l i x) := by
  unfold replL
  rw [if_pos ⟨by omega, by omega⟩]
  rfl
/-- Put back again all is as it was. -/
theorem replL_back {l : List Chd} {i : Nat} (h : i < l.length) (h0 : l[0].key = ⟨#[]⟩) (x : Chd) : replL (replL l i [x]) i [l[i]] = l := by
  have e1 : replL l i [x] = first (rawL l i [x]) := replL_in h _
  have hl : (replL l i [x]).length = l.length := by rw [e1, first_len, rawL_len h]; simp; omega
  have e2 : replL (replL l i [x]) i [l[i]] = first (rawL (replL l i [x]) i [l[i]]) := replL_in (by rw [hl]; exact h) _
  have hl2 : (rawL (replL l i [x]) i [l[i]]).length = l.length := by rw [rawL_len (by omega), hl]; simp; omega
  rw [e2]
  refine List.ext_getElem (by rw [first_len, hl2]) fun k h1 h2 => ?_
  rw [first_at (by omega)]
  have hk : (rawL (replL l i [x]) i [l[i]])[k]'(by omega) = if k = i then l[i] else (replL l i [x])[k]'(by omega) := by
    rcases Nat.lt_trichotomy k i with h3 | h3 | h3
    · rw [rawL_low (by omega) _ h3, if_neg (by omega)]
    · subst h3
      rw [rawL_mid (by omega) _ (Nat.le_refl _) (by simp), if_pos rfl]
      simp
    · rw [rawL_high (by omega) _ (by simp; omega) (by rw [hl]; simp; omega), if_neg (by omega)]
      congr 1
      simp
      omega
  have hk2 : (replL l i [x])[k]'(by omega) = if k = 0 then ⟨⟨#[]⟩, (if k = i then x else l[k]).page⟩ else if k = i then x else l[k] := by
    simp only [e1]
    rw [first_at (by rw [rawL_len h]; simp; omega)]
    have : (rawL l i [x])[k]'(by rw [rawL_len h]; simp; omega) = if k = i then x else l[k] := by
      rcases Nat.lt_trichotomy k i with h3 | h3 | h3
      · rw [rawL_low h _ h3, if_neg (by omega)]
      · subst h3
        rw [rawL_mid h _ (Nat.le_refl _) (by simp), if_pos rfl]
        simp
      · rw [rawL_high h _ (by simp; omega) (by simp; omega), if_neg (by omega)]
        congr 1
        simp
        omega
    rw [this]
  rw [hk]
  by_cases hk0 : k = 0
  · subst hk0
    rw [if_pos rfl]
    by_cases hi0 : 0 = i
    · subst hi0
      rw [if_pos rfl]
      rw [← h0]
    · rw [if_neg hi0, hk2, if_pos rfl, if_neg hi0]
      rw [← h0]
  · rw [if_neg hk0]
    by_cases hki : k = i
    · subst hki; rw [if_pos rfl]
    · rw [if_neg hki, hk2, if_neg hk0, if_neg hki]
end Go.Proofs.Ytpfifmjcmpankaa.BR
