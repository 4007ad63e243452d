/-
  A leaf's items as lists: the order of keys, what is right, the bytes, where a key stands, what is put in and taken out. (No walk.) Walks over package num: the zig-zag, and one number's groups. Walks over package num's Reader: a reader at block b holds the rest of its bytes and its error. Walks over package num: what lays numbers, texts and truths as bytes. The bytes of texts, counted. Walks over package num: Var and Text, of lists; Bool.
-/
import Derived.Test.YtpoocbkligjgbaaGreatDoorMg1
import Derived.Lib.Bytealg
import Derived.Lib.VarintMem
import Derived.Test.YtpoocbkligjgbaaGreatDoorProg
import Derived.Test.YtpoocbkligjgbaaGreatDoorMg7
import Derived.Test.YtpoocbkligjgbaaGreatDoorMg3
namespace Go.Proofs.YtpoocbkligjgbaaGreatDoor
open Go.RowKit Go.Lib

/-- An item. -/
structure Itm where
  key : ByteArray
  val : ByteArray
  over : Int
  size : Int
def Itm.ok (x : Itm) : Prop := x.key.size ≤ 9223372036854775807 ∧ x.val.size ≤ 9223372036854775807 ∧ IsInt x.over ∧ IsInt x.size

/-- The order of texts, as the walk says it. -/
def ltK (a b : ByteArray) : Bool := Op.bytesLess a.toList b.toList

theorem bl_irrefl : ∀ x : List UInt8, Op.bytesLess x x = false
  | [] => rfl
  | a :: x => by
    have := bl_irrefl x
    simp [Op.bytesLess, this, UInt8.lt_irrefl]
theorem bl_trans : ∀ x y z : List UInt8, Op.bytesLess x y = true → Op.bytesLess y z = true → Op.bytesLess x z = true
  | _, [], _, h, _ => by simp [Op.bytesLess] at h
  | _, _ :: _, [], _, h => by simp [Op.bytesLess] at h
  | [], _ :: _, _ :: _, _, _ => rfl
  | a :: x, b :: y, c :: z, h, k => by
    simp only [Op.bytesLess, Bool.or_eq_true, Bool.and_eq_true, decide_eq_true_eq, beq_iff_eq] at h k ⊢
    rcases h with h | ⟨rfl, h⟩
    · rcases k with k | ⟨rfl, k⟩
      · exact .inl (UInt8.lt_trans h k)
      · exact .inl h
    · rcases k with k | ⟨rfl, k⟩
      · exact .inl k
      · exact .inr ⟨rfl, bl_trans x y z h k⟩
theorem bl_tri : ∀ x y : List UInt8, Op.bytesLess x y = false → Op.bytesLess y x = false → x = y
  | [], [], _, _ => rfl
  | [], _ :: _, h, _ => by simp [Op.bytesLess] at h
  | _ :: _, [], _, h => by simp [Op.bytesLess] at h
  | a :: x, b :: y, h, k => by
    simp only [Op.bytesLess, Bool.or_eq_false_iff, Bool.and_eq_false_iff, decide_eq_false_iff_not, beq_eq_false_iff_ne] at h k
    obtain ⟨h1, h2⟩ := h
    obtain ⟨k1, k2⟩ := k
    obtain rfl : a = b := UInt8.le_antisymm (UInt8.not_lt.1 k1) (UInt8.not_lt.1 h1)
    rw [bl_tri x y (h2.resolve_left (fun h => h rfl)) (k2.resolve_left (fun h => h rfl))]
theorem bl_cmp : ∀ x y : List UInt8, (Lib.compareBytes x y < 0 ↔ Op.bytesLess x y = true) ∧ (Lib.compareBytes x y = 0 ↔ x = y)
  | [], [] => by simp [Lib.compareBytes, Op.bytesLess]
  | [], _ :: _ => by simp [Lib.compareBytes, Op.bytesLess]
  | _ :: _, [] => by simp [Lib.compareBytes, Op.bytesLess]
  | a :: x, b :: y => by
    have ih := bl_cmp x y
    by_cases h : a < b
    · have hne : a ≠ b := fun e => by subst e; exact UInt8.lt_irrefl _ h
      simp [Lib.compareBytes, Op.bytesLess, h, hne]
    · by_cases k : b < a
      · have hne : a ≠ b := fun e => by subst e; exact UInt8.lt_irrefl _ k
        simp [Lib.compareBytes, Op.bytesLess, h, k, hne]
      · obtain rfl : a = b := UInt8.le_antisymm (UInt8.not_lt.1 k) (UInt8.not_lt.1 h)
        simp [Lib.compareBytes, Op.bytesLess, h, ih]

theorem toList_inj {a b : ByteArray} (h : a.toList = b.toList) : a = b := by
  rw [Lib.toList_data, Lib.toList_data] at h
  exact ByteArray.ext (Array.toList_inj.1 h)
theorem ltK_irrefl (a : ByteArray) : ltK a a = false := bl_irrefl _
theorem ltK_trans {a b c : ByteArray} (h : ltK a b = true) (k : ltK b c = true) : ltK a c = true := bl_trans _ _ _ h k
theorem ltK_tri {a b : ByteArray} (h : ltK a b = false) (k : ltK b a = false) : a = b := toList_inj (bl_tri _ _ h k)
theorem ltK_ne {a b : ByteArray} (h : ltK a b = true) : a ≠ b := fun e => by subst e; rw [ltK_irrefl] at h; cases h
theorem ltK_asymm {a b : ByteArray} (h : ltK a b = true) : ltK b a = false := by
  cases k : ltK b a
  · rfl
  · have := ltK_trans h k
    rw [ltK_irrefl] at this
    cases this
theorem ltK_cmp (a b : ByteArray) : (Lib.compareBytes a.data.toList b.data.toList < 0 ↔ ltK a b = true) ∧ (Lib.compareBytes a.data.toList b.data.toList = 0 ↔ a = b) := by
  have h := bl_cmp a.data.toList b.data.toList
  unfold ltK
  rw [Lib.toList_data, Lib.toList_data]
  exact ⟨h.1, h.2.trans ⟨fun e => ByteArray.ext (Array.toList_inj.1 e), fun e => by rw [e]⟩⟩

/-- The keys rise strictly. -/
def Rise (l : List Itm) : Prop := l.Pairwise fun a b => ltK a.key b.key = true
theorem Rise.at {l : List Itm} (h : Rise l) {i j : Nat} (hij : i < j) (hj : j < l.length) : ltK (l[i]'(by omega)).key l[j].key = true :=
  List.pairwise_iff_getElem.1 h i j (by omega) hj hij
theorem rise_next {l : List Itm} (h : ∀ i (hi : i + 1 < l.length), ltK (l[i]'(by omega)).key l[i + 1].key = true) : Rise l := by
  unfold Rise
  rw [List.pairwise_iff_getElem]
  intro i j hi hj hij
  induction j with
  | zero => omega
  | succ j ih =>
    by_cases e : i = j
    · subst e; exact h i hj
    · exact ltK_trans (ih (by omega) (by omega)) (h j hj)

/-- The place at which a key stands, or would stand. -/
def lb (l : List Itm) (k : ByteArray) : Nat := (l.takeWhile fun x => ltK x.key k).length
theorem lb_le (l : List Itm) (k : ByteArray) : lb l k ≤ l.length := (List.takeWhile_sublist _).length_le
theorem lb_cons (a : Itm) (l : List Itm) (k : ByteArray) : lb (a :: l) k = if ltK a.key k = true then lb l k + 1 else 0 := by
  unfold lb
  rw [List.takeWhile_cons]
  cases ltK a.key k <;> simp
theorem lb_below : ∀ {l : List Itm} {k : ByteArray} {i : Nat} (_ : i < lb l k) (hi : i < l.length), ltK l[i].key k = true
  | [], _, _, h, hi => by simp at hi
  | a :: l, k, i, h, hi => by
    rw [lb_cons] at h
    split at h
    · rename_i hc
      cases i with
      | zero => exact hc
      | succ i => exact lb_below (l := l) (by omega) (by simpa using hi)
    · omega
theorem lb_at : ∀ {l : List Itm} {k : ByteArray} (h : lb l k < l.length), ltK l[lb l k].key k = false
  | [], _, h => by simp at h
  | a :: l, k, h => by
    by_cases hc : ltK a.key k = true
    · have e : lb (a :: l) k = lb l k + 1 := by rw [lb_cons, if_pos hc]
      have h' : lb l k < l.length := by rw [e] at h; simpa using h
      simp only [e, List.getElem_cons_succ]
      exact lb_at h'
    · have e : lb (a :: l) k = 0 := by rw [lb_cons, if_neg hc]
      simp only [e, List.getElem_cons_zero]
      simpa using hc
theorem lb_above {l : List Itm} (hr : Rise l) {k : ByteArray} {i : Nat} (h : lb l k ≤ i) (hi : i < l.length) : ltK l[i].key k = false := by
  by_cases e : lb l k = i
  · subst e; exact lb_at hi
  · have h1 := hr.at (i := lb l k) (j := i) (by omega) hi
    have h2 := lb_at (l := l) (k := k) (by omega)
    cases h3 : ltK l[i].key k
    · rfl
    · rw [ltK_trans h1 h3] at h2; cases h2

/-- Is the key there? -/
def isAt (l : List Itm) (k : ByteArray) : Bool := decide ((l[lb l k]?).map Itm.key = some k)
theorem isAt_iff {l : List Itm} {k : ByteArray} : isAt l k = true ↔ ∃ h : lb l k < l.length, l[lb l k].key = k := by
  unfold isAt
  rw [decide_eq_true_eq]
  by_cases h : lb l k < l.length
  · simp [h]
  · rw [List.getElem?_eq_none (by omega)]
    simp [h]

/-- With an item put in; with a key taken out. -/
def behind (l : List Itm) (k : ByteArray) : Nat := lb l k + if isAt l k = true then 1 else 0
def setL (l : List Itm) (x : Itm) : List Itm := l.take (lb l x.key) ++ x :: l.drop (behind l x.key)
def delL (l : List Itm) (k : ByteArray) : List Itm := if isAt l k = true then l.take (lb l k) ++ l.drop (lb l k + 1) else l

theorem behind_le (l : List Itm) (k : ByteArray) : behind l k ≤ l.length ∧ lb l k ≤ behind l k := by
  unfold behind
  have h := lb_le l k
  split
  · rename_i hc
    obtain ⟨h1, _⟩ := isAt_iff.1 hc
    omega
  · omega

theorem Rise.take {l : List Itm} (h : Rise l) (n : Nat) : Rise (l.take n) := List.Pairwise.sublist (List.take_sublist n l) h
theorem Rise.drop {l : List Itm} (h : Rise l) (n : Nat) : Rise (l.drop n) := List.Pairwise.sublist (List.drop_sublist n l) h
theorem delL_none {l : List Itm} {k : ByteArray} (h : isAt l k = false) : delL l k = l := by
  unfold delL
  rw [if_neg (by rw [h]; decide)]


end Go.Proofs.YtpoocbkligjgbaaGreatDoor

namespace Go.Proofs.YtpoocbkligjgbaaGreatDoor
open Go.RowKit Go.Lib

set_option maxHeartbeats 400000 in
theorem uns_any (v : Int) (h0 : -9223372036854775808 ≤ v) (h1 : v ≤ 9223372036854775807) (w : World) : Calls Tryz.prog 284 #[.int .i64 v] w fun e w' => e = .returned (.int .u64 (zigzag v)) ∧ w = w' := by
  have hz := fun h => zigzag_neg (x := v) h0 h
  have hn := fun h => zigzag_nonneg (x := v) h
  have Hz := Lib.hid hz
  have Hn := Lib.hid hn
  clear hz hn
  go_enter Tryz.func284, Tryz.ntmps284
  go_wp2
  · go_ret
    exact ⟨ret_u64 (Hz.out (by assumption)), rfl⟩
  · go_ret
    exact ⟨ret_u64 (Hn.out (by assumption)).symm, rfl⟩

def unzig (u : Nat) : Int := if u % 2 = 1 then -((u / 2 : Nat) : Int) - 1 else ((u / 2 : Nat) : Int)

set_option maxHeartbeats 400000 in
theorem signed_any (u : Nat) (h1 : u < 18446744073709551616) (w : World) : Calls Tryz.prog 294 #[.int .u64 u] w fun e w' => e = .returned (.int .i64 (unzig u)) ∧ w = w' := by
  have e1 := u64_and1 (u : Int) (by omega) (by omega)
  have e2 := i64_not (u / 2) (by omega)
  have E1 := Lib.hid e1
  have E2 := Lib.hid e2
  clear e1 e2
  go_enter Tryz.func294, Tryz.ntmps294
  go_wp2
  · go_ret
    have hb : (bits BinOp.and IntKind.u64 (u : Int) 1 == 1) = true := by assumption
    rw [E1.out] at hb
    have hb' := WalkArith.int_eq hb
    refine ⟨ret_i64 ?_, rfl⟩
    have e3 : (u : Int) / 2 = ((u / 2 : Nat) : Int) := by omega
    unfold unzig
    rw [if_pos (by omega), e3, E2.out]
  · go_ret
    have hb : (bits BinOp.and IntKind.u64 (u : Int) 1 == 1) = false := by assumption
    rw [E1.out] at hb
    have hb' := WalkArith.int_ne hb
    refine ⟨ret_i64 ?_, rfl⟩
    unfold unzig
    rw [if_neg (by omega)]
    omega

set_option maxRecDepth 100000 in
set_option maxHeartbeats 400000 in
theorem groups_any (s : ByteArray) (hs : s.size ≤ 9223372036854775807) (w : World) : Calls Tryz.prog 293 #[.string s] w fun e w' => e = .returned (.tuple #[.int .u64 (gscan 0 0 s.data.toList).1, .int .i64 (gscan 0 0 s.data.toList).2.1, .int .i64 (gscan 0 0 s.data.toList).2.2]) ∧ w = w' := by
  go_enter Tryz.func293, Tryz.ntmps293
  go_wp2
  go_loop [5, 6] (fun u i => ∃ (k X : Nat), k ≤ s.size ∧ k ≤ 9 ∧ X < 2 ^ (7 * k) ∧ i = .int .i64 k ∧ u = .int .u64 X ∧ gscan 0 0 s.data.toList = gscan k X (s.data.toList.drop k)) (fun _ i => s.size - (intOf i).toNat)
  case atStart => exact ⟨0, 0, by omega, by omega, by decide, rfl, rfl, rfl⟩
  case round =>
    obtain ⟨k, X, hk, hk9, hX, rfl, rfl, hd⟩ := hrel
    have HX := Lib.hid hX
    have HD := Lib.hid hd
    clear hX hd
    by_cases hlt : k < s.size
    · have hb := s[k].toNat_lt
      go_wp2
      case' roundEnd =>
        have h9 : ¬ (k : Int) = 9 := by assumption
        have h1 : 128 ≤ (s[k].toNat : Int) := by assumption
        rw [or_step X k _ HX.out hk9 hb (by omega)]
        exact ⟨⟨k + 1, _, by omega, by omega, acc_step HX.out, by go_num, rfl, by rw [HD.out, gs_more hlt (by omega) (by omega)]⟩, by simp [intOf]; omega⟩
      · have e9 : (k : Int) = 9 := by assumption
        have h1 : 1 < (s[k].toNat : Int) := by assumption
        go_ret3
        exact ⟨by rw [HD.out, gs_over hlt e9 h1]; rfl, rfl⟩
      · have e9 : (k : Int) = 9 := by assumption
        have h1 : s[k].toNat = 0 := by assumption
        go_ret3
        exact ⟨by rw [HD.out, gs_zero hlt h1 (by omega)]; rfl, rfl⟩
      · have e9 : (k : Int) = 9 := by assumption
        have h1 : (s[k].toNat : Int) ≤ 1 := by assumption
        have h0 : ¬ s[k].toNat = 0 := by assumption
        obtain rfl : k = 9 := by omega
        rw [or_step9 X _ HX.out (by omega)]
        go_ret3
        exact ⟨by rw [HD.out, gs_last hlt (by omega) (by omega) (by omega)]; rfl, rfl⟩
      · have h1 : s[k].toNat = 0 := by assumption
        have h2 : 0 < k := by assumption
        go_ret3
        exact ⟨by rw [HD.out, gs_zero hlt h1 h2]; rfl, rfl⟩
      · have h9 : ¬ (k : Int) = 9 := by assumption
        have h1 : s[k].toNat = 0 := by assumption
        have h2 : ¬ 0 < k := by assumption
        have e0 := or_step X k 0 HX.out hk9 (by decide) (by omega)
        rw [show ((0 : Nat) : Int) = 0 from rfl] at e0
        rw [e0]
        go_ret3
        exact ⟨by rw [HD.out, gs_last hlt (by omega) (by omega) (by omega), h1]; rfl, rfl⟩
      · have h9 : ¬ (k : Int) = 9 := by assumption
        have h1 : (s[k].toNat : Int) < 128 := by assumption
        have h2 : ¬ s[k].toNat = 0 := by assumption
        rw [or_step X k _ HX.out hk9 hb (by omega)]
        go_ret3
        exact ⟨by rw [HD.out, gs_last hlt (by omega) (by omega) (by omega), Nat.mod_eq_of_lt (by omega)]; rfl, rfl⟩
    · go_wp2
      go_ret3
      exact ⟨by rw [HD.out, gs_end hlt]; rfl, rfl⟩
end Go.Proofs.YtpoocbkligjgbaaGreatDoor

namespace Go.Proofs.YtpoocbkligjgbaaGreatDoor
open Go.RowKit Go.Lib

/-- The reader at block b: its bytes l are left, its error is n. -/
def Rd (w : World) (b : Nat) (l : List UInt8) (n : Int) : Prop := ∃ s : ByteArray, s.data.toList = l ∧ s.size ≤ 9223372036854775807 ∧ Has w b 384 #[.string s, .int .i64 n]

theorem Rd.inside {w : World} {b : Nat} {l : List UInt8} {n : Int} (h : Rd w b l n) : b < w.heap.size := by
  obtain ⟨s, _, _, h⟩ := h
  exact h.inside
theorem Rd.below {w w' : World} {b B : Nat} {l : List UInt8} {n : Int} (h : Rd w b l n) (hb : Below B w w') (hg : b < B) : Rd w' b l n := by
  obtain ⟨s, h1, h2, h⟩ := h
  exact ⟨s, h1, h2, h.below hb hg⟩
theorem Rd.len {w : World} {b : Nat} {l : List UInt8} {n : Int} (h : Rd w b l n) : l.length ≤ 9223372036854775807 := by
  obtain ⟨s, rfl, h2, _⟩ := h
  simpa using h2


set_option maxHeartbeats 400000 in
theorem err_at (b : Nat) (n : Int) (w : World) (hc : w.cell? ⟨b, 1, none⟩ = some (.int .i64 n)) :
    Calls Tryz.prog 270 #[.pointer (some ⟨b, 0, none⟩)] w fun e w' => e = .returned (.int .i64 n) ∧ w = w' := by
  go_enter Tryz.func270, Tryz.ntmps270
  go_wp2
  go_ret
  exact ⟨rfl, rfl⟩


/-- What End tells. -/
def endOf (l : List UInt8) (n : Int) : Int := if n = 0 then (if l = [] then 0 else 4) else n

set_option maxHeartbeats 400000 in
theorem end_any (b : Nat) (l : List UInt8) (n : Int) (w : World) (h : Rd w b l n) :
    Calls Tryz.prog 268 #[.pointer (some ⟨b, 0, none⟩)] w fun e w' => e = .returned (.int .i64 (endOf l n)) ∧ w = w' := by
  obtain ⟨s, hl, hs, hb⟩ := h
  have c0 := hb.cell 0
  have c1 := hb.cell 1
  simp at c0 c1
  subst hl
  clear hb
  by_cases hn : n = 0
  · subst hn
    by_cases he : s.data.toList = []
    · have he' : s.toList = [] := by rw [ByteArray.toList_eq]; exact he
      go_enter Tryz.func268, Tryz.ntmps268
      go_wp2_with (go_at_call 270; refine (err_at _ _ _ c1).mono ?_; rintro e w' ⟨rfl, rfl⟩)
      go_ret
      exact ⟨ret_i64 (by rw [endOf, if_pos rfl, if_pos he]), rfl⟩
    · have he' : (!s.toList.isEmpty) = true := by rw [ByteArray.toList_eq]; simpa using he
      have he2 : s.toList.isEmpty = false := by simpa using he'
      go_enter Tryz.func268, Tryz.ntmps268
      go_wp2_with (go_at_call 270; refine (err_at _ _ _ c1).mono ?_; rintro e w' ⟨rfl, rfl⟩)
      go_ret
      exact ⟨ret_i64 (by rw [endOf, if_pos rfl, if_neg he]), rfl⟩
  · have hb1 : (n == 0) = false := by simpa using hn
    go_enter Tryz.func268, Tryz.ntmps268
    go_wp2_with (go_at_call 270; refine (err_at _ _ _ c1).mono ?_; rintro e w' ⟨rfl, rfl⟩)
    go_ret
    exact ⟨ret_i64 (by rw [endOf, if_neg hn]), rfl⟩

theorem groups_at (s : ByteArray) (u n er : Nat) (hs : s.size ≤ 9223372036854775807) (hg : Hid (gscan 0 0 s.data.toList = (u, n, er))) (w : World) :
    Calls Tryz.prog 293 #[.string s] w fun e w' => e = .returned (.tuple #[.int .u64 u, .int .i64 n, .int .i64 er]) ∧ w = w' := by
  have h := groups_any s hs w
  rw [hg.out] at h
  exact h

/-- What Var reads of the bytes l: the number, what is left, the error. -/
def rvar (l : List UInt8) : Int × List UInt8 × Int :=
  if (gscan 0 0 l).2.2 = 0 then (unzig (gscan 0 0 l).1, l.drop (gscan 0 0 l).2.1, 0) else (0, l, ((gscan 0 0 l).2.2 : Int))

/-- What a reader's call comes to: its answer v; the bytes l are left, the error is n; no other block has turned. -/
def RdPost (w : World) (b : Nat) (v : Value) (l : List UInt8) (n : Int) (e : Ending) (w' : World) : Prop := e = .returned v ∧ Rd w' b l n ∧ w.grownBy w' (some b)

theorem Rd.setRest {w : World} {b : Nat} {l : List UInt8} {n : Int} (h : Rd w b l n) (s : ByteArray) (hs : s.size ≤ 9223372036854775807) : RdPost w b .nilIface s.data.toList n (.returned .nilIface) (w.setCell ⟨b, 0, none⟩ (.string s)) := by
  obtain ⟨s0, _, _, h⟩ := h
  exact ⟨rfl, ⟨s, rfl, hs, by simpa using h.put 0 (.string s)⟩, grownBy_setCell w ⟨b, 0, none⟩ _⟩
theorem Rd.setErr {w : World} {b : Nat} {l : List UInt8} {n : Int} (h : Rd w b l n) (n' : Int) : RdPost w b .nilIface l n' (.returned .nilIface) (w.setCell ⟨b, 1, none⟩ (.int .i64 n')) := by
  obtain ⟨s0, h1, h2, h⟩ := h
  exact ⟨rfl, ⟨s0, h1, h2, by simpa using h.put 1 (.int .i64 n')⟩, grownBy_setCell w ⟨b, 1, none⟩ _⟩

set_option maxHeartbeats 400000 in
theorem rvar_err (b : Nat) (l : List UInt8) (n : Int) (w : World) (h : Rd w b l n) (hn : n ≠ 0) :
    Calls Tryz.prog 272 #[.pointer (some ⟨b, 0, none⟩)] w fun e w' => e = .returned (.int .i64 0) ∧ w = w' := by
  obtain ⟨s, hl, hs, hb⟩ := h
  have c1 := hb.cell 1
  simp at c1
  have hb1 : (n == 0) = false := by simpa using hn
  have hb2 : (n != 0) = true := by simpa using hn
  go_enter Tryz.func272, Tryz.ntmps272
  go_wp2_with (go_at_call 270; refine (err_at _ _ _ c1).mono ?_; rintro e w' ⟨rfl, rfl⟩)
  go_ret
  exact ⟨rfl, rfl⟩

set_option maxHeartbeats 400000 in
theorem rvar_any (b : Nat) (l : List UInt8) (w : World) (h : Rd w b l 0) :
    Calls Tryz.prog 272 #[.pointer (some ⟨b, 0, none⟩)] w (RdPost w b (.int .i64 (rvar l).1) (rvar l).2.1 (rvar l).2.2) := by
  have h' := h
  obtain ⟨s, hl, hs, hb⟩ := h
  have c0 := hb.cell 0
  have c1 := hb.cell 1
  simp at c0 c1
  subst hl
  have f0 := hb.free 0
  have f1 := hb.free 1
  clear hb
  have hle := gscan_n_le s.data.toList 0 0
  have hult := gscan_u_lt s.data.toList 0 0 (by omega) (by decide)
  rcases gscan_err s.data.toList 0 0 with ⟨h0, h1⟩ | h4 | h5
  · rcases hg : gscan 0 0 s.data.toList with ⟨u, n, er⟩
    rw [hg] at h0 h1 hle hult
    simp only at h0 h1 hle hult
    subst h0
    have hn : n ≤ s.size := by simpa using hle
    have HG := Lib.hid hg
    clear hg hle
    go_enter Tryz.func272, Tryz.ntmps272
    go_wp2_with (first | (go_at_call 270; refine (err_at _ _ _ c1).mono ?_; rintro e w' ⟨rfl, rfl⟩) | (go_at_call 293; refine (groups_at s u n 0 hs HG _).mono ?_; rintro e w' ⟨rfl, rfl⟩) | (go_at_call 294; refine (signed_any u hult _).mono ?_; rintro e w' ⟨rfl, rfl⟩))
    have hsz : (s.extract n s.size).size ≤ 9223372036854775807 := by simp; omega
    have hp := h'.setRest (s.extract n s.size) hsz
    have hv : rvar s.data.toList = (unzig u, s.data.toList.drop n, 0) := by unfold rvar; rw [HG.out]; rfl
    rw [hv]
    have hx : (s.extract n s.size).data.toList = s.data.toList.drop n := by simp; exact List.take_of_length_le (by simp)
    rw [hx] at hp
    go_ret
    exact ⟨rfl, hp.2.1, hp.2.2⟩
  · have hv : rvar s.data.toList = (0, s.data.toList, 4) := by unfold rvar; rw [h4]; rfl
    have HG := Lib.hid h4
    have HV := Lib.hid hv
    clear h4 hle hult hv
    go_enter Tryz.func272, Tryz.ntmps272
    go_wp2_with (first | (go_at_call 270; refine (err_at _ _ _ c1).mono ?_; rintro e w' ⟨rfl, rfl⟩) | (go_at_call 293; refine (groups_at s 0 0 4 hs HG _).mono ?_; rintro e w' ⟨rfl, rfl⟩))
    have hp := h'.setErr 4
    rw [HV.out]
    go_ret
    exact ⟨rfl, hp.2.1, hp.2.2⟩
  · have hv : rvar s.data.toList = (0, s.data.toList, 5) := by unfold rvar; rw [h5]; rfl
    have HG := Lib.hid h5
    have HV := Lib.hid hv
    clear h5 hle hult hv
    go_enter Tryz.func272, Tryz.ntmps272
    go_wp2_with (first | (go_at_call 270; refine (err_at _ _ _ c1).mono ?_; rintro e w' ⟨rfl, rfl⟩) | (go_at_call 293; refine (groups_at s 0 0 5 hs HG _).mono ?_; rintro e w' ⟨rfl, rfl⟩))
    have hp := h'.setErr 5
    rw [HV.out]
    go_ret
    exact ⟨rfl, hp.2.1, hp.2.2⟩

theorem rvar_rest (l : List UInt8) : (rvar l).2.1.length ≤ l.length := by
  unfold rvar
  split <;> simp

/-- What Count reads. -/
def rcount (most : Int) (l : List UInt8) : Int × List UInt8 × Int :=
  if (rvar l).2.2 ≠ 0 then (0, (rvar l).2) else if (rvar l).1 < 0 then (0, (rvar l).2.1, 4) else if most < (rvar l).1 then (0, (rvar l).2.1, 2) else rvar l

set_option maxHeartbeats 400000 in
theorem rcount_err (b : Nat) (l : List UInt8) (n most : Int) (w : World) (h : Rd w b l n) (hn : n ≠ 0) :
    Calls Tryz.prog 292 #[.pointer (some ⟨b, 0, none⟩), .int .i64 most] w fun e w' => e = .returned (.int .i64 0) ∧ w = w' := by
  have h' := h
  obtain ⟨s, hl, hs, hb⟩ := h
  have c1 := hb.cell 1
  simp at c1
  have hb1 : (n == 0) = false := by simpa using hn
  have hb2 : (n != 0) = true := by simpa using hn
  go_enter Tryz.func292, Tryz.ntmps292
  go_wp2_with (first | (go_at_call 270; refine (err_at _ _ _ c1).mono ?_; rintro e w' ⟨rfl, rfl⟩) | (go_at_call 272; refine (rvar_err _ _ _ _ h' hn).mono ?_; rintro e w' ⟨rfl, rfl⟩))
  go_ret
  exact ⟨rfl, rfl⟩

theorem RdPost.cells {w w' : World} {b : Nat} {v : Value} {l : List UInt8} {n : Int} {e : Ending} (h : RdPost w b v l n e w') :
    ∃ s : ByteArray, Hid (s.data.toList = l) ∧ s.size ≤ l.length ∧ l.length ≤ s.size ∧ w'.cell? ⟨b, 0, none⟩ = some (.string s) ∧ w'.cell? ⟨b, 1, none⟩ = some (.int .i64 n) ∧ w'.frozen? ⟨b, 0, none⟩ = false ∧ w'.frozen? ⟨b, 1, none⟩ = false := by
  obtain ⟨_, ⟨s, h1, h2, h3⟩, _⟩ := h
  have c0 := h3.cell 0
  have c1 := h3.cell 1
  simp at c0 c1
  have e := congrArg List.length h1
  simp at e
  exact ⟨s, h1, by omega, by omega, c0, c1, h3.free 0, h3.free 1⟩

theorem RdPost.thenErr {w w' : World} {b : Nat} {v : Value} {l : List UInt8} {n : Int} {e : Ending} (h : RdPost w b v l n e w') (v' : Value) (n' : Int) :
    RdPost w b v' l n' (.returned v') (w'.setCell ⟨b, 1, none⟩ (.int .i64 n')) := by
  obtain ⟨_, h1, h2⟩ := h
  have := h1.setErr n'
  exact ⟨rfl, this.2.1, grownBy_trans h2 this.2.2⟩

theorem RdPost.later {w w' w2 : World} {b : Nat} {v : Value} {l : List UInt8} {n : Int} {e : Ending} (h : RdPost w b v l n e w') (hb : Below w'.heap.size w' w2) (v' : Value) : RdPost w b v' l n (.returned v') w2 :=
  ⟨rfl, h.2.1.below hb h.2.1.inside, grownBy_trans h.2.2 (grownBy_of_below hb)⟩

set_option maxHeartbeats 400000 in
theorem rcount_any (b : Nat) (l : List UInt8) (most : Int) (w : World) (h : Rd w b l 0) :
    Calls Tryz.prog 292 #[.pointer (some ⟨b, 0, none⟩), .int .i64 most] w (RdPost w b (.int .i64 (rcount most l).1) (rcount most l).2.1 (rcount most l).2.2) := by
  have hr := rvar_any b l w h
  rcases hv : rvar l with ⟨x, r, n⟩
  rw [hv] at hr
  by_cases hn : n = 0
  · subst hn
    have hb2 : ((0 : Int) != 0) = false := rfl
    have hc : rcount most l = if x < 0 then (0, r, 4) else if most < x then (0, r, 2) else (x, r, 0) := by unfold rcount; rw [hv]; simp
    have HC := Lib.hid hc
    clear hc hv
    by_cases hx : x < 0
    · go_enter Tryz.func292, Tryz.ntmps292
      go_wp2_with (first | (go_at_call 272; refine hr.mono ?_; rintro e w' hp; have hq := hp.cells; obtain ⟨s, Hs, hs1, hs2, c0, c1, f0, f1⟩ := hq; obtain rfl := hp.1) | (go_at_call 270; refine (err_at _ _ _ (by assumption)).mono ?_; rintro e w'' ⟨rfl, rfl⟩))
      have hz : rcount most l = (0, r, 4) := by rw [HC.out, if_pos hx]
      rw [hz]
      go_ret
      exact hp.thenErr (.int .i64 0) 4
    · by_cases hm : most < x
      · go_enter Tryz.func292, Tryz.ntmps292
        go_wp2_with (first | (go_at_call 272; refine hr.mono ?_; rintro e w' hp; have hq := hp.cells; obtain ⟨s, Hs, hs1, hs2, c0, c1, f0, f1⟩ := hq; obtain rfl := hp.1) | (go_at_call 270; refine (err_at _ _ _ (by assumption)).mono ?_; rintro e w'' ⟨rfl, rfl⟩))
        have hz : rcount most l = (0, r, 2) := by rw [HC.out, if_neg (by omega), if_pos (by omega)]
        rw [hz]
        go_ret
        exact hp.thenErr (.int .i64 0) 2
      · go_enter Tryz.func292, Tryz.ntmps292
        go_wp2_with (first | (go_at_call 272; refine hr.mono ?_; rintro e w' hp; have hq := hp.cells; obtain ⟨s, Hs, hs1, hs2, c0, c1, f0, f1⟩ := hq; obtain rfl := hp.1) | (go_at_call 270; refine (err_at _ _ _ (by assumption)).mono ?_; rintro e w'' ⟨rfl, rfl⟩))
        have hz : rcount most l = (x, r, 0) := by rw [HC.out, if_neg (by omega), if_neg (by omega)]
        rw [hz]
        go_ret
        exact hp
  · have hb1 : (n == 0) = false := by simpa using hn
    have hb2 : (n != 0) = true := by simpa using hn
    have hc : rcount most l = (0, r, n) := by unfold rcount; rw [hv]; simp [hn]
    have HC := Lib.hid hc
    clear hc hv
    go_enter Tryz.func292, Tryz.ntmps292
    go_wp2_with (first | (go_at_call 272; refine hr.mono ?_; rintro e w' hp; have hq := hp.cells; obtain ⟨s, Hs, hs1, hs2, c0, c1, f0, f1⟩ := hq; obtain rfl := hp.1) | (go_at_call 270; refine (err_at _ _ _ (by assumption)).mono ?_; rintro e w'' ⟨rfl, rfl⟩))
    rw [HC.out]
    go_ret
    exact ⟨rfl, hp.2⟩

theorem rcount_rest (most : Int) (l : List UInt8) : (rcount most l).2.1.length ≤ l.length := by
  have := rvar_rest l
  unfold rcount
  split
  · exact this
  · split
    · exact this
    · split <;> exact this

theorem rcount_nonneg (most : Int) (l : List UInt8) : 0 ≤ (rcount most l).1 := by
  unfold rcount
  split
  · simp
  · split
    · simp
    · split
      · simp
      · omega

/-- What Text reads. -/
def rtext (most : Int) (l : List UInt8) : List UInt8 × List UInt8 × Int :=
  if (rcount most l).2.2 ≠ 0 then ([], (rcount most l).2)
  else if ((rcount most l).2.1.length : Int) < (rcount most l).1 then ([], (rcount most l).2.1, 5)
  else ((rcount most l).2.1.take (rcount most l).1.toNat, (rcount most l).2.1.drop (rcount most l).1.toNat, 0)

set_option maxHeartbeats 400000 in
theorem rtext_err (b : Nat) (l : List UInt8) (n most : Int) (w : World) (h : Rd w b l n) (hn : n ≠ 0) :
    Calls Tryz.prog 271 #[.pointer (some ⟨b, 0, none⟩), .int .i64 most] w fun e w' => e = .returned (.string ByteArray.empty) ∧ w = w' := by
  have h' := h
  obtain ⟨s, hl, hs, hb⟩ := h
  have c1 := hb.cell 1
  simp at c1
  have hb1 : (n == 0) = false := by simpa using hn
  have hb2 : (n != 0) = true := by simpa using hn
  go_enter Tryz.func271, Tryz.ntmps271
  go_wp2_with (first | (go_at_call 270; refine (err_at _ _ _ c1).mono ?_; rintro e w' ⟨rfl, rfl⟩) | (go_at_call 292; refine (rcount_err _ _ _ _ _ h' hn).mono ?_; rintro e w' ⟨rfl, rfl⟩))
  go_ret
  exact ⟨rfl, rfl⟩

set_option maxHeartbeats 400000 in
theorem rtext_any (b : Nat) (l : List UInt8) (most : Int) (w : World) (h : Rd w b l 0) (hlen : l.length ≤ 281474976710656) :
    Calls Tryz.prog 271 #[.pointer (some ⟨b, 0, none⟩), .int .i64 most] w (RdPost w b (.string ⟨(rtext most l).1.toArray⟩) (rtext most l).2.1 (rtext most l).2.2) := by
  have hr := rcount_any b l most w h
  have hrest := rcount_rest most l
  have hnn := rcount_nonneg most l
  rcases hv : rcount most l with ⟨x, r, n⟩
  rw [hv] at hr hrest hnn
  by_cases hn : n = 0
  · subst hn
    have hb2 : ((0 : Int) != 0) = false := rfl
    obtain ⟨k, rfl⟩ : ∃ k : Nat, x = k := ⟨x.toNat, by simp at hnn; omega⟩
    have hc : rtext most l = if (r.length : Int) < (k : Int) then ([], r, 5) else (r.take k, r.drop k, 0) := by unfold rtext; rw [hv]; simp
    have HC := Lib.hid hc
    clear hc hv
    simp only at hrest
    by_cases hx : r.length < k
    · go_enter Tryz.func271, Tryz.ntmps271
      go_wp2_with (first | (go_at_call 292; refine hr.mono ?_; rintro e w' hp; have hq := hp.cells; obtain ⟨s, Hs, hs1, hs2, c0, c1, f0, f1⟩ := hq; have hsl : s.size < k := Nat.lt_of_le_of_lt hs1 hx; obtain rfl := hp.1) | (go_at_call 270; refine (err_at _ _ _ (by assumption)).mono ?_; rintro e w'' ⟨rfl, rfl⟩))
      have hz : rtext most l = ([], r, 5) := by rw [HC.out, if_pos (by omega)]
      rw [hz]
      go_ret
      exact hp.thenErr (.string ⟨([] : List UInt8).toArray⟩) 5
    · go_enter Tryz.func271, Tryz.ntmps271
      go_wp2_with (first | (go_at_call 292; refine hr.mono ?_; rintro e w' hp; have hq := hp.cells; obtain ⟨s, Hs, hs1, hs2, c0, c1, f0, f1⟩ := hq; have hsl : k ≤ s.size := Nat.le_trans (Nat.le_of_not_lt hx) hs2; have hsm : s.size ≤ 281474976710656 := Nat.le_trans (Nat.le_trans hs1 hrest) hlen; obtain rfl := hp.1) | (go_at_call 270; refine (err_at _ _ _ (by assumption)).mono ?_; rintro e w'' ⟨rfl, rfl⟩))
      refine (tclone_any _ ?_ _).mono ?_
      · simp; omega
      rintro e w2 ⟨rfl, hb⟩
      have hin := hp.2.1.inside
      have d0 : w2.cell? ⟨b, 0, none⟩ = some (.string s) := (hb.cell (p := ⟨b, 0, none⟩) hin).trans c0
      have d1 : w2.frozen? ⟨b, 0, none⟩ = false := (hb.frozen (p := ⟨b, 0, none⟩) hin).trans f0
      have hq := hp.later hb .nilIface
      clear hb c0 f0 c1 f1
      go_wp2
      have hz : rtext most l = (r.take k, r.drop k, 0) := by rw [HC.out, if_neg (by omega)]
      have hsz : (s.extract k s.size).size ≤ 9223372036854775807 := by simp; omega
      have hx := hq.2.1.setRest (s.extract k s.size) hsz
      have e1 : (s.extract k s.size).data.toList = r.drop k := by rw [← Hs.out]; simp; exact List.take_of_length_le (by simp)
      have e2 : (⟨(r.take k).toArray⟩ : ByteArray) = s.extract 0 k := by
        apply ByteArray.ext
        apply Array.ext'
        rw [← Hs.out]
        simp
      rw [hz, e2]
      rw [e1] at hx
      go_ret
      exact ⟨rfl, hx.2.1, grownBy_trans hq.2.2 hx.2.2⟩
  · have hb1 : (n == 0) = false := by simpa using hn
    have hb2 : (n != 0) = true := by simpa using hn
    have hc : rtext most l = ([], r, n) := by unfold rtext; rw [hv]; simp [hn]
    have HC := Lib.hid hc
    clear hc hv
    go_enter Tryz.func271, Tryz.ntmps271
    go_wp2_with (first | (go_at_call 292; refine hr.mono ?_; rintro e w' hp; have hq := hp.cells; obtain ⟨s, Hs, hs1, hs2, c0, c1, f0, f1⟩ := hq; obtain rfl := hp.1) | (go_at_call 270; refine (err_at _ _ _ (by assumption)).mono ?_; rintro e w'' ⟨rfl, rfl⟩))
    rw [HC.out]
    go_ret
    exact ⟨rfl, hp.2⟩

/-- What Bool reads. -/
def rbool : List UInt8 → Bool × List UInt8 × Int
  | [] => (false, [], 5)
  | c :: r => if 1 < c.toNat then (false, c :: r, 4) else (decide (c.toNat = 1), r, 0)

set_option maxHeartbeats 400000 in
theorem rbool_err (b : Nat) (l : List UInt8) (n : Int) (w : World) (h : Rd w b l n) (hn : n ≠ 0) :
    Calls Tryz.prog 291 #[.pointer (some ⟨b, 0, none⟩)] w fun e w' => e = .returned (.bool false) ∧ w = w' := by
  obtain ⟨s, hl, hs, hb⟩ := h
  have c1 := hb.cell 1
  simp at c1
  have hb1 : (n == 0) = false := by simpa using hn
  have hb2 : (n != 0) = true := by simpa using hn
  go_enter Tryz.func291, Tryz.ntmps291
  go_wp2_with (go_at_call 270; refine (err_at _ _ _ c1).mono ?_; rintro e w' ⟨rfl, rfl⟩)
  go_ret
  exact ⟨rfl, rfl⟩

set_option maxHeartbeats 400000 in
theorem rbool_any (b : Nat) (l : List UInt8) (w : World) (h : Rd w b l 0) :
    Calls Tryz.prog 291 #[.pointer (some ⟨b, 0, none⟩)] w (RdPost w b (.bool (rbool l).1) (rbool l).2.1 (rbool l).2.2) := by
  have h' := h
  obtain ⟨s, hl, hs, hb⟩ := h
  have c0 := hb.cell 0
  have c1 := hb.cell 1
  simp at c0 c1
  have f0 := hb.free 0
  have f1 := hb.free 1
  clear hb
  cases l with
  | nil =>
    have he' : s.toList = [] := by rw [ByteArray.toList_eq]; exact hl
    clear hl
    go_enter Tryz.func291, Tryz.ntmps291
    go_wp2_with (go_at_call 270; refine (err_at _ _ _ c1).mono ?_; rintro e w' ⟨rfl, rfl⟩)
    have hp := h'.setErr 5
    go_ret
    exact ⟨rfl, hp.2⟩
  | cons c r =>
    have he : s.toList.isEmpty = false := by rw [ByteArray.toList_eq, hl]; rfl
    have hsz : 0 < s.size := by have := congrArg List.length hl; simp at this; omega
    have hc : s[0] = c := by
      have e : s.data.toList[0]? = some c := by rw [hl]; rfl
      have e' : s.data[0]'(by simpa using hsz) = c := by simpa [hsz] using e
      exact e'
    have Hl := Lib.hid hl
    clear hl
    by_cases h1 : 1 < c.toNat
    · have hz : rbool (c :: r) = (false, c :: r, 4) := by show (if 1 < c.toNat then _ else _) = _; rw [if_pos h1]
      have HZ := Lib.hid hz
      clear hz
      go_enter Tryz.func291, Tryz.ntmps291
      go_wp2_with (go_at_call 270; refine (err_at _ _ _ c1).mono ?_; rintro e w' ⟨rfl, rfl⟩)
      have hp := h'.setErr 4
      rw [HZ.out]
      go_ret
      exact ⟨rfl, hp.2⟩
    · have hz : rbool (c :: r) = (decide (c.toNat = 1), r, 0) := by show (if 1 < c.toNat then _ else _) = _; rw [if_neg h1]
      have HZ := Lib.hid hz
      clear hz
      go_enter Tryz.func291, Tryz.ntmps291
      go_wp2_with (go_at_call 270; refine (err_at _ _ _ c1).mono ?_; rintro e w' ⟨rfl, rfl⟩)
      have hx := h'.setRest (s.extract 1 s.size) (by simp; omega)
      have e1 : (s.extract 1 s.size).data.toList = r := by simp [Hl.out]; exact List.take_of_length_le (by have := congrArg List.length Hl.out; simp at this; omega)
      have e2 : (decide (c.toNat = 1)) = ((c.toNat : Int) == 1) := by
        rw [Bool.eq_iff_iff]
        simp
        omega
      rw [e1] at hx
      rw [HZ.out, e2]
      go_ret
      exact ⟨rfl, hx.2⟩

set_option maxHeartbeats 400000 in
theorem rdnew_any (s : ByteArray) (w : World) (hs : s.size ≤ 9223372036854775807) :
    Calls Tryz.prog 267 #[.string s] w fun e w' => e = .returned (.pointer (some ⟨w.heap.size, 0, none⟩)) ∧ Rd w' w.heap.size s.data.toList 0 ∧ Below w.heap.size w w' := by
  go_enter Tryz.func267, Tryz.ntmps267
  go_wp2
  go_ret
  exact ⟨rfl, ⟨s, rfl, hs, Has.made _ _ _⟩, (Below.refl _ _).alloc (Nat.le_refl _) _⟩
end Go.Proofs.YtpoocbkligjgbaaGreatDoor

namespace Go.Proofs.YtpoocbkligjgbaaGreatDoor
open Go.RowKit Go.Lib

theorem uv_last {m l : List UInt8} {u y : Nat} (h : m ++ uvarint y = l ++ uvarint u) (hy : ¬ 128 ≤ y) : m ++ [y.toUInt8] = l ++ uvarint u := by
  rw [← h, uvarint_small (by omega)]
theorem uv_more {m l : List UInt8} {u y : Nat} (h : m ++ uvarint y = l ++ uvarint u) (hy : 128 ≤ y) : (m ++ [(y % 128 + 128).toUInt8]) ++ uvarint (y / 128) = l ++ uvarint u := by
  rw [← h, uvarint_big hy]
  simp

set_option maxRecDepth 1000000 in
set_option maxHeartbeats 400000 in
theorem addVar_any (base : Nat) (bv : Value) (l : List UInt8) (v : Int) (w : World) (h0 : -9223372036854775808 ≤ v) (h1 : v ≤ 9223372036854775807) (hown : Row w base bv l) (hb : base ≤ w.heap.size) (hlen : l.length ≤ 35184372088832) :
    Calls Tryz.prog 246 #[bv, .int .i64 v] w (Laid base (l ++ uvarint (zigzag v)) w) := by
  have hz := zigzag_lt h0 h1
  generalize hu : zigzag v = u at hz ⊢
  have huns := uns_any v h0 h1 w
  rw [hu] at huns
  clear hu h0 h1
  go_enter Tryz.func246, Tryz.ntmps246
  go_wp2_with (go_at_call 284; refine huns.mono ?_; rintro e w' ⟨rfl, rfl⟩)
  go_loopw [0, 5] (fun b x wr => ∃ (y : Nat) (m : List UInt8), x = .int .u64 y ∧ y < 18446744073709551616 ∧ Row wr base b m ∧ m ++ uvarint y = l ++ uvarint u ∧ m.length + (uvarint y).length ≤ l.length + (uvarint u).length ∧ Below base w wr)
    (fun _ x _ => (intOf x).toNat)
  case atStart => exact ⟨u, l, rfl, hz, hown, rfl, Nat.le_refl _, Below.refl _ _⟩
  case round =>
    obtain ⟨y, m, rfl, hy, hr, hm, hml, hbl⟩ := hrel
    have h10 := uvarint_length64 hz
    have HM := Lib.hid hm
    have hbs := hbl.size
    have hlm : m.length ≤ 70368744177664 := by omega
    by_cases hge : 128 ≤ y
    · have hor : bits BinOp.or IntKind.u8 ((y : Int) % 256) 128 = ((y % 128 + 128 : Nat) : Int) := by rw [u8_or128_any _ (by omega) (by omega)]; omega
      have HOR := Lib.hid hor
      have hml2 : (uvarint (y / 128)).length + 1 = (uvarint y).length := by rw [uvarint_big hge]; rfl
      have HML : Hid ((m ++ [(y % 128 + 128).toUInt8]).length + (uvarint (y / 128)).length ≤ l.length + (uvarint u).length) := by show (m ++ _).length + _ ≤ _; simp; omega
      clear hm hml hor hml2
      go_wp2_with (at_builtin; go_must (refine append_byte rfl _ _ rfl base wr u0 m rfl hr _ (y % 128 + 128) rfl HOR.out (by omega) hlm (by omega) ?_); intro b' w1 hr1 hb1)
      go_roundw
      case rel => exact ⟨y / 128, m ++ [(y % 128 + 128).toUInt8], by go_num, by omega, hr1, uv_more HM.out hge, HML.out, hbl.trans hb1⟩
      case measure => simp [intOf]; omega
    · clear hm hml
      go_wp2_with (at_builtin; refine append_byte rfl _ _ rfl base wr u0 m rfl hr _ y rfl (by omega) (by omega) hlm (by omega) ?_; intro b' w1 hr1 hb1)
      rw [uv_last HM.out hge] at hr1
      go_ret
      exact ⟨_, rfl, hr1, hbl.trans hb1⟩
end Go.Proofs.YtpoocbkligjgbaaGreatDoor

namespace Go.Proofs.YtpoocbkligjgbaaGreatDoor
open Go.RowKit Go.Lib

def sizes (l : List ByteArray) : Nat := (l.map ByteArray.size).sum
theorem sizes_take (l : List ByteArray) (k : Nat) : sizes (l.take k) ≤ sizes l := by
  have : sizes l = sizes (l.take k) + sizes (l.drop k) := by unfold sizes; rw [← List.sum_append, ← List.map_append, List.take_append_drop]
  omega
theorem sizes_mem (l : List ByteArray) (s : ByteArray) (h : s ∈ l) : s.size ≤ sizes l := by
  induction l with
  | nil => simp at h
  | cons a r ih =>
    simp only [sizes, List.map_cons, List.sum_cons] at *
    rcases List.mem_cons.1 h with rfl | h
    · omega
    · have := ih h
      omega
end Go.Proofs.YtpoocbkligjgbaaGreatDoor

namespace Go.Proofs.YtpoocbkligjgbaaGreatDoor
open Go.RowKit Go.Lib

/-- The bytes of numbers, and of texts. -/
def varsB (l : List Int) : List UInt8 := l.flatMap fun v => uvarint (zigzag v)
def textB (s : ByteArray) : List UInt8 := uvarint (zigzag s.size) ++ s.data.toList
def textsB (l : List ByteArray) : List UInt8 := l.flatMap textB


theorem varsB_snoc (l : List Int) (v : Int) : varsB (l ++ [v]) = varsB l ++ uvarint (zigzag v) := by simp [varsB]
theorem varsB_len (l : List Int) (h : ∀ v ∈ l, IsInt v) : (varsB l).length ≤ 10 * l.length := by
  induction l with
  | nil => simp [varsB]
  | cons a r ih =>
    have h1 := uvarint_length64 (zigzag_lt (h a (by simp)).1 (h a (by simp)).2)
    have h2 := ih (fun v hv => h v (by simp [hv]))
    simp only [varsB, List.flatMap_cons, List.length_append, List.length_cons] at *
    omega

set_option maxRecDepth 1000000 in
set_option maxHeartbeats 400000 in
theorem var_any (v : Value) (l : List Int) (w : World) (hr : Reads1 w w.heap.size v (l.map (Value.int .i64))) (hl : l.length ≤ 1099511627776) (hi : ∀ x ∈ l, IsInt x) :
    Calls Tryz.prog 197 #[v] w fun e w' => e = .returned (.string ⟨(varsB l).toArray⟩) ∧ Below w.heap.size w w' := by
  obtain ⟨A, c, rfl, hc⟩ := hr
  simp only [List.length_map] at hc ⊢
  go_enter Tryz.func197, Tryz.ntmps197
  go_wp2
  go_loopw [3, 8] (fun b i wr => ∃ k : Nat, k ≤ l.length ∧ i = .int .i64 k ∧ Row wr w.heap.size b (varsB (l.take k)) ∧ Below w.heap.size w wr) (fun _ i _ => l.length - (intOf i).toNat)
  case atStart => exact ⟨0, Nat.zero_le _, rfl, Row.nil_ _ _, Below.refl _ _⟩
  case round =>
    obtain ⟨k, hk, rfl, hrow, hbl⟩ := hrel
    have hbs := hbl.size
    by_cases hlt : k < l.length
    · obtain ⟨b, off, rfl, hbb, hcell⟩ := hc (by omega)
      have hck : wr.cell? ⟨b, off + k, none⟩ = some (.int .i64 l[k]) := (hbl.cell (p := ⟨b, off + k, none⟩) hbb).trans (hcell k _ (by simp [hlt]))
      have hik := hi l[k] (by simp)
      have hts := take_snoc1 l k hlt
      have hvl : (varsB (l.take k)).length ≤ 35184372088832 := by
        have := varsB_len (l.take k) (fun v hv => hi v (List.mem_of_mem_take hv))
        simp at this
        omega
      have HS : Hid (varsB (l.take (k + 1)) = varsB (l.take k) ++ uvarint (zigzag l[k])) := by show _ = _; rw [hts, varsB_snoc]
      generalize l[k] = x at *
      clear hts hi hc hcell
      go_wp2_with (go_at_call 246; refine (addVar_any w.heap.size _ _ x _ hik.1 hik.2 hrow hbs hvl).mono ?_; rintro e w' ⟨b', rfl, hrow', hbl'⟩)
      rw [← HS.out] at hrow'
      go_roundw
      case rel => exact ⟨k + 1, by omega, by go_num, hrow', hbl.trans hbl'⟩
      case measure => simp [intOf]; omega
    · have hkl : k = l.length := by omega
      have hs := row_string hrow
      go_wp2
      go_ret
      exact ⟨rfl, hbl⟩

theorem textsB_snoc (l : List ByteArray) (s : ByteArray) : textsB (l ++ [s]) = textsB l ++ textB s := by simp [textsB]

theorem textsB_len (l : List ByteArray) (h : ∀ s ∈ l, s.size ≤ 9223372036854775807) : (textsB l).length ≤ 10 * l.length + sizes l := by
  induction l with
  | nil => simp [textsB, sizes]
  | cons a r ih =>
    have h0 := h a (by simp)
    have h1 := uvarint_length64 (zigzag_lt (x := (a.size : Int)) (by omega) (by omega))
    have h2 := ih (fun v hv => h v (by simp [hv]))
    simp only [textsB, textB, sizes, List.flatMap_cons, List.length_append, List.length_cons, List.map_cons, List.sum_cons] at *
    have h3 : a.data.toList.length = a.size := by simp
    omega

set_option maxRecDepth 1000000 in
set_option maxHeartbeats 400000 in
theorem text_any (v : Value) (l : List ByteArray) (w : World) (hr : Reads1 w w.heap.size v (l.map Value.string)) (hl : l.length ≤ 1099511627776) (hsz : sizes l ≤ 1099511627776) :
    Calls Tryz.prog 194 #[v] w fun e w' => e = .returned (.string ⟨(textsB l).toArray⟩) ∧ Below w.heap.size w w' := by
  obtain ⟨A, c, rfl, hc⟩ := hr
  simp only [List.length_map] at hc ⊢
  go_enter Tryz.func194, Tryz.ntmps194
  go_wp2
  go_loopw [3, 8] (fun b i wr => ∃ k : Nat, k ≤ l.length ∧ i = .int .i64 k ∧ Row wr w.heap.size b (textsB (l.take k)) ∧ Below w.heap.size w wr) (fun _ i _ => l.length - (intOf i).toNat)
  case atStart => exact ⟨0, Nat.zero_le _, rfl, Row.nil_ _ _, Below.refl _ _⟩
  case round =>
    obtain ⟨k, hk, rfl, hrow, hbl⟩ := hrel
    have hbs := hbl.size
    by_cases hlt : k < l.length
    · obtain ⟨b, off, rfl, hbb, hcell⟩ := hc (by omega)
      have hck : wr.cell? ⟨b, off + k, none⟩ = some (.string l[k]) := (hbl.cell (p := ⟨b, off + k, none⟩) hbb).trans (hcell k _ (by simp [hlt]))
      have hsk := sizes_mem l l[k] (by simp)
      have hts := take_snoc1 l k hlt
      have hvl : (textsB (l.take k)).length ≤ 17592186044416 := by
        have h1 := textsB_len (l.take k) (fun v hv => by have := sizes_mem l v (List.mem_of_mem_take hv); omega)
        have h2 := sizes_take l k
        simp at h1
        omega
      have HS : Hid (textsB (l.take (k + 1)) = textsB (l.take k) ++ textB l[k]) := by show _ = _; rw [hts, textsB_snoc]
      generalize l[k] = x at *
      clear hts hc hcell
      have h1 := uvarint_length64 (zigzag_lt (x := (x.size : Int)) (by omega) (by omega))
      have hvl2 : (textsB (l.take k) ++ uvarint (zigzag (x.size : Int))).length ≤ 35184372088832 := by simp; omega
      go_wp2_with (first | (go_at_call 246; refine (addVar_any w.heap.size _ _ (x.size : Int) _ (by omega) (by omega) hrow hbs (by omega)).mono ?_; rintro e w' ⟨b', rfl, hrow', hbl'⟩; have hbs' := hbl'.size) | (at_builtin; refine append_str rfl _ _ rfl w.heap.size _ _ _ rfl (by assumption) x rfl hvl2 (by omega) (by omega) ?_; intro b2 w2 hrow2 hbl2))
      rw [List.append_assoc, ← textB, ← HS.out] at hrow2
      go_roundw
      case rel => exact ⟨k + 1, by omega, by go_num, hrow2, (hbl.trans hbl').trans hbl2⟩
      case measure => simp [intOf]; omega
    · have hkl : k = l.length := by omega
      have hs := row_string hrow
      go_wp2
      go_ret
      exact ⟨rfl, hbl⟩

set_option maxHeartbeats 400000 in
theorem bool_any (b : Bool) (w : World) : Calls Tryz.prog 195 #[.bool b] w fun e w' => e = .returned (.string ⟨#[if b then 1 else 0]⟩) ∧ w = w' := by
  cases b
  · go_enter Tryz.func195, Tryz.ntmps195
    go_wp2
    go_ret
    exact ⟨rfl, rfl⟩
  · go_enter Tryz.func195, Tryz.ntmps195
    go_wp2
    go_ret
    exact ⟨rfl, rfl⟩
end Go.Proofs.YtpoocbkligjgbaaGreatDoor
