/-
  A leaf's items as lists: the order of keys, what is right, the bytes, where a key stands, what is put in and taken out. (No walk.)
-/
import Derived.Test.YtpfifmjcmpankaaGreatMg1
import Derived.Lib.Bytealg
import Derived.Lib.VarintMem
namespace Go.Proofs.YtpfifmjcmpankaaGreat
open Go.RowKit Go.Lib

/-- An item. -/
structure Itm where
  key : ByteArray
  val : ByteArray
  over : Int
  size : Int
def Itm.ok (x : Itm) : Prop := x.key.size ≤ 9223372036854775807 ∧ x.val.size ≤ 9223372036854775807 ∧ IsInt x.over ∧ IsInt x.size

/-- The order of texts, as the walk says it. -/
def ltK (a b : ByteArray) : Bool := Op.bytesLess a.toList b.toList

theorem bl_irrefl : ∀ x : List UInt8, Op.bytesLess x x = false
  | [] => rfl
  | a :: x => by
    have := bl_irrefl x
    simp [Op.bytesLess, this, UInt8.lt_irrefl]
theorem bl_trans : ∀ x y z : List UInt8, Op.bytesLess x y = true → Op.bytesLess y z = true → Op.bytesLess x z = true
  | _, [], _, h, _ => by simp [Op.bytesLess] at h
  | _, _ :: _, [], _, h => by simp [Op.bytesLess] at h
  | [], _ :: _, _ :: _, _, _ => rfl
  | a :: x, b :: y, c :: z, h, k => by
    simp only [Op.bytesLess, Bool.or_eq_true, Bool.and_eq_true, decide_eq_true_eq, beq_iff_eq] at h k ⊢
    rcases h with h | ⟨rfl, h⟩
    · rcases k with k | ⟨rfl, k⟩
      · exact .inl (UInt8.lt_trans h k)
      · exact .inl h
    · rcases k with k | ⟨rfl, k⟩
      · exact .inl k
      · exact .inr ⟨rfl, bl_trans x y z h k⟩
theorem bl_tri : ∀ x y : List UInt8, Op.bytesLess x y = false → Op.bytesLess y x = false → x = y
  | [], [], _, _ => rfl
  | [], _ :: _, h, _ => by simp [Op.bytesLess] at h
  | _ :: _, [], _, h => by simp [Op.bytesLess] at h
  | a :: x, b :: y, h, k => by
    simp only [Op.bytesLess, Bool.or_eq_false_iff, Bool.and_eq_false_iff, decide_eq_false_iff_not, beq_eq_false_iff_ne] at h k
    obtain ⟨h1, h2⟩ := h
    obtain ⟨k1, k2⟩ := k
    obtain rfl : a = b := UInt8.le_antisymm (UInt8.not_lt.1 k1) (UInt8.not_lt.1 h1)
    rw [bl_tri x y (h2.resolve_left (fun h => h rfl)) (k2.resolve_left (fun h => h rfl))]
theorem bl_cmp : ∀ x y : List UInt8, (Lib.compareBytes x y < 0 ↔ Op.bytesLess x y = true) ∧ (Lib.compareBytes x y = 0 ↔ x = y)
  | [], [] => by simp [Lib.compareBytes, Op.bytesLess]
  | [], _ :: _ => by simp [Lib.compareBytes, Op.bytesLess]
  | _ :: _, [] => by simp [Lib.compareBytes, Op.bytesLess]
  | a :: x, b :: y => by
    have ih := bl_cmp x y
    by_cases h : a < b
    · have hne : a ≠ b := fun e => by subst e; exact UInt8.lt_irrefl _ h
      simp [Lib.compareBytes, Op.bytesLess, h, hne]
    · by_cases k : b < a
      · have hne : a ≠ b := fun e => by subst e; exact UInt8.lt_irrefl _ k
        simp [Lib.compareBytes, Op.bytesLess, h, k, hne]
      · obtain rfl : a = b := UInt8.le_antisymm (UInt8.not_lt.1 k) (UInt8.not_lt.1 h)
        simp [Lib.compareBytes, Op.bytesLess, h, ih]

theorem toList_inj {a b : ByteArray} (h : a.toList = b.toList) : a = b := by
  rw [Lib.toList_data, Lib.toList_data] at h
  exact ByteArray.ext (Array.toList_inj.1 h)
theorem ltK_irrefl (a : ByteArray) : ltK a a = false := bl_irrefl _
theorem ltK_trans {a b c : ByteArray} (h : ltK a b = true) (k : ltK b c = true) : ltK a c = true := bl_trans _ _ _ h k
theorem ltK_tri {a b : ByteArray} (h : ltK a b = false) (k : ltK b a = false) : a = b := toList_inj (bl_tri _ _ h k)
theorem ltK_ne {a b : ByteArray} (h : ltK a b = true) : a ≠ b := fun e => by subst e; rw [ltK_irrefl] at h; cases h
theorem ltK_asymm {a b : ByteArray} (h : ltK a b = true) : ltK b a = false := by
  cases k : ltK b a
  · rfl
  · have := ltK_trans h k
    rw [ltK_irrefl] at this
    cases this
theorem ltK_cmp (a b : ByteArray) : (Lib.compareBytes a.data.toList b.data.toList < 0 ↔ ltK a b = true) ∧ (Lib.compareBytes a.data.toList b.data.toList = 0 ↔ a = b) := by
  have h := bl_cmp a.data.toList b.data.toList
  unfold ltK
  rw [Lib.toList_data, Lib.toList_data]
  exact ⟨h.1, h.2.trans ⟨fun e => ByteArray.ext (Array.toList_inj.1 e), fun e => by rw [e]⟩⟩

/-- The keys rise strictly. -/
def Rise (l : List Itm) : Prop := l.Pairwise fun a b => ltK a.key b.key = true
theorem Rise.at {l : List Itm} (h : Rise l) {i j : Nat} (hij : i < j) (hj : j < l.length) : ltK (l[i]'(by omega)).key l[j].key = true :=
  List.pairwise_iff_getElem.1 h i j (by omega) hj hij
theorem rise_next {l : List Itm} (h : ∀ i (hi : i + 1 < l.length), ltK (l[i]'(by omega)).key l[i + 1].key = true) : Rise l := by
  unfold Rise
  rw [List.pairwise_iff_getElem]
  intro i j hi hj hij
  induction j with
  | zero => omega
  | succ j ih =>
    by_cases e : i = j
    · subst e; exact h i hj
    · exact ltK_trans (ih (by omega) (by omega)) (h j hj)

/-- The place at which a key stands, or would stand. -/
def lb (l : List Itm) (k : ByteArray) : Nat := (l.takeWhile fun x => ltK x.key k).length
theorem lb_le (l : List Itm) (k : ByteArray) : lb l k ≤ l.length := (List.takeWhile_sublist _).length_le
theorem lb_cons (a : Itm) (l : List Itm) (k : ByteArray) : lb (a :: l) k = if ltK a.key k = true then lb l k + 1 else 0 := by
  unfold lb
  rw [List.takeWhile_cons]
  cases ltK a.key k <;> simp
theorem lb_below : ∀ {l : List Itm} {k : ByteArray} {i : Nat} (_ : i < lb l k) (hi : i < l.length), ltK l[i].key k = true
  | [], _, _, h, hi => by simp at hi
  | a :: l, k, i, h, hi => by
    rw [lb_cons] at h
    split at h
    · rename_i hc
      cases i with
      | zero => exact hc
      | succ i => exact lb_below (l := l) (by omega) (by simpa using hi)
    · omega
theorem lb_at : ∀ {l : List Itm} {k : ByteArray} (h : lb l k < l.length), ltK l[lb l k].key k = false
  | [], _, h => by simp at h
  | a :: l, k, h => by
    by_cases hc : ltK a.key k = true
    · have e : lb (a :: l) k = lb l k + 1 := by rw [lb_cons, if_pos hc]
      have h' : lb l k < l.length := by rw [e] at h; simpa using h
      simp only [e, List.getElem_cons_succ]
      exact lb_at h'
    · have e : lb (a :: l) k = 0 := by rw [lb_cons, if_neg hc]
      simp only [e, List.getElem_cons_zero]
      simpa using hc
theorem lb_above {l : List Itm} (hr : Rise l) {k : ByteArray} {i : Nat} (h : lb l k ≤ i) (hi : i < l.length) : ltK l[i].key k = false := by
  by_cases e : lb l k = i
  · subst e; exact lb_at hi
  · have h1 := hr.at (i := lb l k) (j := i) (by omega) hi
    have h2 := lb_at (l := l) (k := k) (by omega)
    cases h3 : ltK l[i].key k
    · rfl
    · rw [ltK_trans h1 h3] at h2; cases h2
theorem lb_is {l : List Itm} {k : ByteArray} {m : Nat} (hm : m ≤ l.length) (h1 : ∀ i (hi : i < l.length), i < m → ltK l[i].key k = true) (h2 : ∀ h : m < l.length, ltK l[m].key k = false) : lb l k = m := by
  have h3 := lb_le l k
  rcases Nat.lt_trichotomy (lb l k) m with h | h | h
  · have := lb_at (l := l) (k := k) (by omega)
    rw [h1 _ (by omega) h] at this
    cases this
  · exact h
  · have := lb_below (l := l) (k := k) h (by omega)
    rw [h2 (by omega)] at this
    cases this

/-- Is the key there? -/
def isAt (l : List Itm) (k : ByteArray) : Bool := decide ((l[lb l k]?).map Itm.key = some k)
theorem isAt_iff {l : List Itm} {k : ByteArray} : isAt l k = true ↔ ∃ h : lb l k < l.length, l[lb l k].key = k := by
  unfold isAt
  rw [decide_eq_true_eq]
  by_cases h : lb l k < l.length
  · simp [h]
  · rw [List.getElem?_eq_none (by omega)]
    simp [h]
theorem isAt_mem {l : List Itm} (hr : Rise l) {k : ByteArray} : isAt l k = true ↔ k ∈ l.map Itm.key := by
  rw [isAt_iff]
  constructor
  · rintro ⟨h, e⟩
    exact List.mem_map.2 ⟨_, List.getElem_mem h, e⟩
  · intro h
    obtain ⟨x, hx, rfl⟩ := List.mem_map.1 h
    obtain ⟨i, hi, rfl⟩ := List.getElem_of_mem hx
    have e : lb l l[i].key = i := lb_is (by omega) (fun j hj hji => hr.at hji hi) (fun _ => ltK_irrefl _)
    exact ⟨by omega, by simp only [e]⟩
theorem lb_self {l : List Itm} (hr : Rise l) {i : Nat} (hi : i < l.length) : lb l l[i].key = i ∧ isAt l l[i].key = true := by
  have e : lb l l[i].key = i := lb_is (by omega) (fun j hj hji => hr.at hji hi) (fun _ => ltK_irrefl _)
  exact ⟨e, isAt_iff.2 ⟨by omega, by simp only [e]⟩⟩

/-- With an item put in; with a key taken out. -/
def behind (l : List Itm) (k : ByteArray) : Nat := lb l k + if isAt l k = true then 1 else 0
def setL (l : List Itm) (x : Itm) : List Itm := l.take (lb l x.key) ++ x :: l.drop (behind l x.key)
def delL (l : List Itm) (k : ByteArray) : List Itm := if isAt l k = true then l.take (lb l k) ++ l.drop (lb l k + 1) else l

theorem behind_le (l : List Itm) (k : ByteArray) : behind l k ≤ l.length ∧ lb l k ≤ behind l k := by
  unfold behind
  have h := lb_le l k
  split
  · rename_i hc
    obtain ⟨h1, _⟩ := isAt_iff.1 hc
    omega
  · omega
theorem behind_lt {l : List Itm} (hr : Rise l) {k : ByteArray} {i : Nat} (h : behind l k ≤ i) (hi : i < l.length) : ltK k l[i].key = true := by
  have h1 := lb_above hr (k := k) (i := i) (by have := behind_le l k; omega) hi
  cases h2 : ltK k l[i].key
  · have e := ltK_tri h1 h2
    obtain ⟨e1, e2⟩ := lb_self hr hi
    rw [e] at e1 e2
    unfold behind at h
    rw [if_pos e2] at h
    omega
  · rfl

theorem Rise.take {l : List Itm} (h : Rise l) (n : Nat) : Rise (l.take n) := List.Pairwise.sublist (List.take_sublist n l) h
theorem Rise.drop {l : List Itm} (h : Rise l) (n : Nat) : Rise (l.drop n) := List.Pairwise.sublist (List.drop_sublist n l) h
theorem mem_take_lb {l : List Itm} {k : ByteArray} {y : Itm} (h : y ∈ l.take (lb l k)) : ltK y.key k = true := by
  obtain ⟨i, hi, rfl⟩ := List.getElem_of_mem h
  simp only [List.length_take] at hi
  rw [List.getElem_take]
  exact lb_below (by omega) (by omega)
theorem mem_drop_behind {l : List Itm} (hr : Rise l) {k : ByteArray} {y : Itm} (h : y ∈ l.drop (behind l k)) : ltK k y.key = true := by
  obtain ⟨i, hi, rfl⟩ := List.getElem_of_mem h
  simp only [List.length_drop] at hi
  rw [List.getElem_drop]
  exact behind_lt hr (by omega) (by omega)
theorem setL_rise {l : List Itm} (hr : Rise l) (x : Itm) : Rise (setL l x) := by
  unfold setL Rise
  rw [List.pairwise_append]
  refine ⟨hr.take _, ?_, ?_⟩
  · rw [List.pairwise_cons]
    exact ⟨fun y hy => mem_drop_behind hr hy, hr.drop _⟩
  · intro a ha b hb
    have h1 := mem_take_lb ha
    rcases List.mem_cons.1 hb with rfl | hb
    · exact h1
    · exact ltK_trans h1 (mem_drop_behind hr hb)
theorem setL_get {l : List Itm} (x : Itm) : (setL l x)[lb l x.key]? = some x := by
  have h0 := lb_le l x.key
  have ht : (l.take (lb l x.key)).length = lb l x.key := by simp; omega
  unfold setL
  rw [List.getElem?_append_right (by omega), ht, Nat.sub_self]
  rfl
theorem setL_at {l : List Itm} (x : Itm) : ∃ h : lb l x.key < (setL l x).length, (setL l x)[lb l x.key] = x := List.getElem?_eq_some_iff.1 (setL_get x)
theorem setL_lb {l : List Itm} (x : Itm) : lb (setL l x) x.key = lb l x.key := by
  have h0 := lb_le l x.key
  have ht : (l.take (lb l x.key)).length = lb l x.key := by simp; omega
  obtain ⟨h1, e1⟩ := setL_at (l := l) x
  refine lb_is (by omega) (fun i hi h => ?_) (fun h => ?_)
  · have h2 : (setL l x)[i]? = l[i]? := by
      unfold setL
      rw [List.getElem?_append_left (by omega), List.getElem?_take, if_pos h]
    rw [List.getElem?_eq_getElem hi, List.getElem?_eq_getElem (by omega)] at h2
    rw [Option.some.inj h2]
    exact lb_below h (by omega)
  · rw [e1]
    exact ltK_irrefl _
theorem setL_is {l : List Itm} (x : Itm) : isAt (setL l x) x.key = true := by
  rw [isAt_iff, setL_lb]
  obtain ⟨h, e⟩ := setL_at (l := l) x
  exact ⟨h, by rw [e]⟩
theorem split_at (l : List Itm) (k : ByteArray) : l = l.take (lb l k) ++ ((l.drop (lb l k)).take (behind l k - lb l k) ++ l.drop (behind l k)) := by
  have h := behind_le l k
  have e : l.drop (behind l k) = (l.drop (lb l k)).drop (behind l k - lb l k) := by rw [List.drop_drop]; congr 1; omega
  rw [e, List.take_append_drop, List.take_append_drop]
theorem mem_mid {l : List Itm} {k : ByteArray} {y : Itm} (h : y ∈ (l.drop (lb l k)).take (behind l k - lb l k)) : y.key = k := by
  unfold behind at h
  by_cases hc : isAt l k = true
  · rw [if_pos hc] at h
    obtain ⟨h1, e⟩ := isAt_iff.1 hc
    rw [Nat.add_sub_cancel_left, List.drop_eq_getElem_cons h1, List.take_succ_cons, List.take_zero, List.mem_singleton] at h
    rw [h, e]
  · rw [if_neg hc] at h
    simp at h
theorem setL_keys {l : List Itm} (x : Itm) (k : ByteArray) : k ∈ (setL l x).map Itm.key ↔ k = x.key ∨ k ∈ l.map Itm.key := by
  have h1 : k ∈ l.map Itm.key ↔ k ∈ (l.take (lb l x.key)).map Itm.key ∨ k ∈ ((l.drop (lb l x.key)).take (behind l x.key - lb l x.key)).map Itm.key ∨ k ∈ (l.drop (behind l x.key)).map Itm.key := by
    conv => lhs; rw [split_at l x.key]
    simp only [List.map_append, List.mem_append]
  have h2 : k ∈ ((l.drop (lb l x.key)).take (behind l x.key - lb l x.key)).map Itm.key → k = x.key := by
    intro h
    obtain ⟨y, hy, rfl⟩ := List.mem_map.1 h
    exact mem_mid hy
  rw [h1]
  unfold setL
  simp only [List.map_append, List.mem_append, List.map_cons, List.mem_cons]
  constructor
  · rintro (h | h | h)
    · exact .inr (.inl h)
    · exact .inl h
    · exact .inr (.inr (.inr h))
  · rintro (h | h | h | h)
    · exact .inr (.inl h)
    · exact .inl h
    · exact .inr (.inl (h2 h))
    · exact .inr (.inr h)
theorem delL_rise {l : List Itm} (hr : Rise l) (k : ByteArray) : Rise (delL l k) := by
  unfold delL
  split
  · refine List.Pairwise.sublist ?_ hr
    conv => rhs; rw [← List.take_append_drop (lb l k) l]
    refine (List.Sublist.refl _).append ?_
    rw [← List.drop_drop]
    exact List.drop_sublist _ _
  · exact hr
theorem delL_len {l : List Itm} (k : ByteArray) : (delL l k).length = if isAt l k = true then l.length - 1 else l.length := by
  unfold delL
  by_cases h : isAt l k = true
  · rw [if_pos h, if_pos h]
    obtain ⟨h1, _⟩ := isAt_iff.1 h
    simp
    omega
  · rw [if_neg h, if_neg h]
theorem delL_gone {l : List Itm} (hr : Rise l) (k : ByteArray) : isAt (delL l k) k = false := by
  cases hc : isAt (delL l k) k
  · rfl
  · have hm := (isAt_mem (delL_rise hr k)).1 hc
    obtain ⟨y, hy, e⟩ := List.mem_map.1 hm
    unfold delL at hy
    by_cases h : isAt l k = true
    · rw [if_pos h] at hy
      rcases List.mem_append.1 hy with hy | hy
      · have := mem_take_lb hy
        rw [e, ltK_irrefl] at this
        cases this
      · have h2 : behind l k = lb l k + 1 := by unfold behind; rw [if_pos h]
        rw [← h2] at hy
        have := mem_drop_behind hr hy
        rw [e, ltK_irrefl] at this
        cases this
    · rw [if_neg h] at hy
      exact absurd ((isAt_mem hr).2 (List.mem_map.2 ⟨y, hy, e⟩)) h
theorem delL_none {l : List Itm} {k : ByteArray} (h : isAt l k = false) : delL l k = l := by
  unfold delL
  rw [if_neg (by rw [h]; decide)]

/-- Rising lists of the same keys have the same keys in the same places. -/
theorem keys_eq : ∀ {a b : List ByteArray}, a.Pairwise (fun x y => ltK x y = true) → b.Pairwise (fun x y => ltK x y = true) → (∀ k, k ∈ a ↔ k ∈ b) → a = b
  | [], [], _, _, _ => rfl
  | [], y :: _, _, _, h => by have := (h y).2 (by simp); simp at this
  | x :: _, [], _, _, h => by have := (h x).1 (by simp); simp at this
  | x :: a, y :: b, ha, hb, h => by
    rw [List.pairwise_cons] at ha hb
    have hxy : x = y := by
      rcases List.mem_cons.1 ((h x).1 (by simp)) with e | hx
      · exact e
      · rcases List.mem_cons.1 ((h y).2 (by simp)) with e | hy
        · exact e.symm
        · have h1 := hb.1 x hx
          have h2 := ha.1 y hy
          rw [ltK_asymm h1] at h2
          cases h2
    subst hxy
    have ht : ∀ k, k ∈ a ↔ k ∈ b := by
      intro k
      constructor
      · intro hk
        rcases List.mem_cons.1 ((h k).1 (by simp [hk])) with e | h1
        · have := ha.1 k hk
          rw [e, ltK_irrefl] at this
          cases this
        · exact h1
      · intro hk
        rcases List.mem_cons.1 ((h k).2 (by simp [hk])) with e | h1
        · have := hb.1 k hk
          rw [e, ltK_irrefl] at this
          cases this
        · exact h1
    rw [keys_eq ha.2 hb.2 ht]
theorem Rise.keys {l : List Itm} (h : Rise l) : (l.map Itm.key).Pairwise (fun x y => ltK x y = true) := List.pairwise_map.2 h

/-- Items put in, one by one. -/
def setAll : List Itm → List Itm → List Itm := List.foldl setL
theorem setAll_rise (l : List Itm) : ∀ {a : List Itm}, Rise a → Rise (setAll a l) := by
  induction l with
  | nil => exact fun h => h
  | cons x l ih => exact fun h => ih (setL_rise h x)
theorem setAll_keys (l : List Itm) (k : ByteArray) : ∀ a : List Itm, k ∈ (setAll a l).map Itm.key ↔ k ∈ a.map Itm.key ∨ k ∈ l.map Itm.key := by
  induction l with
  | nil => intro a; simp [setAll]
  | cons x l ih =>
    intro a
    show k ∈ (setAll (setL a x) l).map Itm.key ↔ _
    rw [ih, setL_keys, List.map_cons, List.mem_cons]
    constructor
    · rintro ((h | h) | h)
      · exact .inr (.inl h)
      · exact .inl h
      · exact .inr (.inr h)
    · rintro (h | h | h)
      · exact .inl (.inr h)
      · exact .inl (.inl h)
      · exact .inr h
theorem setAll_snoc (a l : List Itm) (x : Itm) : setAll a (l ++ [x]) = setL (setAll a l) x := by simp [setAll]
theorem rise_nil : Rise [] := List.Pairwise.nil
/-- In whatever order they are put in, the keys stand alike. -/
theorem setAll_alike {l m : List Itm} (h : ∀ k, k ∈ l.map Itm.key ↔ k ∈ m.map Itm.key) : (setAll [] l).map Itm.key = (setAll [] m).map Itm.key := by
  refine keys_eq (setAll_rise l rise_nil).keys (setAll_rise m rise_nil).keys fun k => ?_
  rw [setAll_keys, setAll_keys, h]
theorem setL_len (l : List Itm) (x : Itm) : (setL l x).length ≤ l.length + 1 ∧ 0 < (setL l x).length := by
  have h := behind_le l x.key
  unfold setL
  simp
  omega
theorem setAll_len (l : List Itm) : ∀ a : List Itm, (setAll a l).length ≤ a.length + l.length := by
  induction l with
  | nil => intro a; simp [setAll]
  | cons x l ih =>
    intro a
    have h1 := ih (setL a x)
    have h2 := setL_len a x
    show (setAll (setL a x) l).length ≤ _
    simp
    omega
end Go.Proofs.YtpfifmjcmpankaaGreat
