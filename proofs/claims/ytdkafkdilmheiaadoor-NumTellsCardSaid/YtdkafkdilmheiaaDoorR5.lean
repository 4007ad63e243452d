/-
  Walks over the document's own answers to chapter 1: the digits of a number.
-/
import Derived.Test.YtdkafkdilmheiaaDoorW4
import Derived.Test.YtdkafkdilmheiaaDoorW5
import Derived.Test.YtdkafkdilmheiaaDoorMath2
import Derived.Laws.AppendOwnNone
import Derived.Laws.OwnMore
import Derived.Lib.BufferWrite
namespace Go.Proofs.YtdkafkdilmheiaaDoor
open Go.RowKit Go.Lib

theorem byteCells_cons {n : Nat} (hn : n < 256) (m : List UInt8) : byteCells (n.toUInt8 :: m) = Value.int .u8 (n : Int) :: byteCells m := by
  show Value.int .u8 ((n.toUInt8).toNat : Int) :: _ = _
  rw [toUInt8_toNat hn]
  rfl

/-- append([]byte{c}, b...): one byte made on the spot, and the bytes of a row of the call's own behind it. -/
theorem prepend_byte {ops : Array Oper} {rest : List Oper} {o : Oper} {a : Act} {Q : Exit → Act → World → Prop} (hgd : o.guard = none) (s x : Operand)
    (ho : o.op = .call { callee := .builtin .append, args := #[s, x], argTypes := #[52, 52] })
    (base : Nat) (wr : World) (bv : Value) (m : List UInt8) (hs : a.eval s = .slice (some ⟨wr.heap.size, 0, none⟩) 1 1) (hrow : Row wr base bv m) (c : Int) (n : Nat) (hx : a.eval x = bv)
    (hc : c = n) (hn : n < 256) (hlen : m.length ≤ 1024) (hbase : base ≤ wr.heap.size)
    (h : ∀ v' w', Row w' base v' (n.toUInt8 :: m) → Below base wr w' → wpList Tryd.prog ops Q rest (a.put o.dst v') w') : wpList Tryd.prog ops Q (o :: rest) a (wr.alloc (.cells #[.int .u8 c] 5)) := by
  obtain ⟨i0, hi, hz0, hz1, hz2⟩ := info_parts Tryd.infoU8
  subst hc
  have hra : Row (wr.alloc (.cells #[.int .u8 (n : Int)] 5)) base bv m := World.ownsRow.alloc hrow _
  have hsrc : (wr.alloc (.cells #[.int .u8 (n : Int)] 5)).ownsRow base 5 1 (.slice (some ⟨wr.heap.size, 0, none⟩) 1 1) 1 [.int .u8 (n : Int)] := World.ownsRow_lit wr #[.int .u8 (n : Int)] 1 hbase (by decide) rfl
  have hsrc' : Row (wr.alloc (.cells #[.int .u8 (n : Int)] 5)) base (.slice (some ⟨wr.heap.size, 0, none⟩) 1 1) [n.toUInt8] := by
    unfold Row
    rw [byteCells_cons hn]
    exact hsrc
  have hB : Below base wr (wr.alloc (.cells #[.int .u8 (n : Int)] 5)) := (Below.refl base wr).alloc hbase _
  rcases hrow.2 with ⟨rfl, hm0⟩ | ⟨g, cap, cur, rfl, hrest⟩
  · obtain rfl : m = [] := List.eq_nil_of_length_eq_zero hm0
    exact wpList_append_own_none hgd s x 52 ho base 5 i0 1 Tryd.underlying52 hi _ 1 _ hs hsrc hx (h _ _ hsrc' hB)
  · refine wpList_append_own _ hgd s x 52 ho base 5 i0 (.int .u8 0) 1 1 Tryd.underlying52 hi hz0 hz1 hz2 rfl (by decide) _ 1 _ hs hsrc ⟨g, 0, none⟩ m.length cap (byteCells m) hx (by simp [byteCells_length])
      (World.ownsRow.cells hra rfl) (byteCells_one m) (by unfold maxLen; omega) (by omega) (by simp; omega) ?_
    intro v' w' h1 h2 _
    refine h v' w' ?_ (hB.trans (below_own hsrc' h2 (by simp; omega)))
    unfold Row
    rw [byteCells_cons hn, List.length_cons, Nat.add_comm]
    exact h1

/-- What is left of the digits, and what is laid. -/
def Left (u y : Nat) (m : List UInt8) : Prop := (0 < y ∧ decDigits y ++ m = decDigits u) ∨ (y = 0 ∧ m = decDigits u)
theorem left_next {u y : Nat} {m : List UInt8} (hy : 0 < y) (h : Left u y m) : Left u (y / 10) ((48 + y % 10).toUInt8 :: m) := by
  rcases h with ⟨_, h⟩ | ⟨h, _⟩
  · by_cases hb : y < 10
    · refine Or.inr ⟨by omega, ?_⟩
      rw [decDigits_one hb] at h
      rw [← h, show y % 10 = y by omega]
      rfl
    · refine Or.inl ⟨by omega, ?_⟩
      rw [decDigits_big hb] at h
      rw [← h, List.append_assoc]
      rfl
  · omega
theorem left_len {u y : Nat} {m : List UInt8} (h : Left u y m) : m.length ≤ (decDigits u).length := by
  rcases h with ⟨_, h⟩ | ⟨_, h⟩
  · rw [← h]; simp
  · rw [h]; exact Nat.le_refl _
theorem dec_len {u : Nat} (h : u ≤ 9223372036854775808) : (decDigits u).length ≤ 1000 := by
  rw [decDigits_length]
  have := nDigits_le 19 u (by omega)
  omega

set_option maxRecDepth 1000000 in
set_option maxHeartbeats 800000 in
theorem refDigits_pos (u : Nat) (w : World) (h0 : 0 < u) (h1 : u ≤ 9223372036854775807) :
    Calls Tryd.prog 27 #[.int .i64 u] w fun e w' => e = .returned (.string ⟨(decDigits u).toArray⟩) ∧ Below w.heap.size w w' := by
  have hdl := dec_len (u := u) (by omega)
  have hne : ((u : Int) == 0) = false := beq_eq_false_iff_ne.2 (by omega)
  go_enter Tryd.func27, Tryd.ntmps27
  go_wp2
  go_loopw [3, 4] (fun b x wr => ∃ (y : Nat) (m : List UInt8), x = .int .i64 y ∧ y ≤ 9223372036854775807 ∧ Row wr w.heap.size b m ∧ Left u y m ∧ Below w.heap.size w wr) (fun _ x _ => (RowKit.intOf x).toNat)
  case atStart => exact ⟨u, [], rfl, h1, Row.nil_ _ _, Or.inl ⟨h0, by simp⟩, Below.refl _ _⟩
  case round =>
    obtain ⟨y, m, rfl, hy, hr, hl, hbl⟩ := hrel
    have hbs := hbl.size
    have hml := left_len hl
    have HL := Lib.hid hl
    clear hl
    by_cases hy0 : 0 < y
    · have hyne : ((y : Int) == 0) = false := beq_eq_false_iff_ne.2 (by omega)
      have hm1 : m.length ≤ 1024 := by omega
      go_wp2_with (at_builtin; refine prepend_byte rfl _ _ rfl w.heap.size wr u3 m rfl hr _ (48 + y % 10) rfl (by omega) (by omega) hm1 (by omega) ?_; intro b' w1 hr1 hb1)
      go_roundw
      case rel => exact ⟨y / 10, _, by go_num, by omega, hr1, left_next hy0 HL.out, hbl.trans hb1⟩
      case measure => simp [RowKit.intOf]; omega
    · obtain rfl : y = 0 := by omega
      have hm : m = decDigits u := by
        rcases HL.out with ⟨h, _⟩ | ⟨_, h⟩
        · omega
        · exact h
      subst hm
      have hs1 := row_string hr
      go_wp2
      go_ret
      exact ⟨rfl, hbl⟩

set_option maxRecDepth 1000000 in
set_option maxHeartbeats 800000 in
theorem refDigits_neg (u : Nat) (w : World) (h0 : 0 < u) (h1 : u ≤ 9223372036854775808) :
    Calls Tryd.prog 27 #[.int .i64 (-(u : Int))] w fun e w' => e = .returned (.string ⟨(45 :: decDigits u).toArray⟩) ∧ Below w.heap.size w w' := by
  have hdl := dec_len (u := u) (by omega)
  have hne : (-(u : Int) == 0) = false := beq_eq_false_iff_ne.2 (by omega)
  go_enter Tryd.func27, Tryd.ntmps27
  go_wp2
  go_loopw [3, 4] (fun b x wr => ∃ (y : Nat) (m : List UInt8), x = .int .i64 (-(y : Int)) ∧ y ≤ 9223372036854775808 ∧ Row wr w.heap.size b m ∧ Left u y m ∧ Below w.heap.size w wr) (fun _ x _ => (-(RowKit.intOf x)).toNat)
  case atStart => exact ⟨u, [], rfl, h1, Row.nil_ _ _, Or.inl ⟨h0, by simp⟩, Below.refl _ _⟩
  case round =>
    obtain ⟨y, m, rfl, hy, hr, hl, hbl⟩ := hrel
    have hbs := hbl.size
    have hml := left_len hl
    have HL := Lib.hid hl
    clear hl
    by_cases hy0 : 0 < y
    · have hyne : (-(y : Int) == 0) = false := beq_eq_false_iff_ne.2 (by omega)
      have hm1 : m.length ≤ 1024 := by omega
      by_cases hz : 0 < (y : Int) % 10
      · go_wp2_with (at_builtin; refine prepend_byte rfl _ _ rfl w.heap.size wr u3 m rfl hr _ (48 + y % 10) rfl (by omega) (by omega) hm1 (by omega) ?_; intro b' w1 hr1 hb1)
        go_roundw
        case rel => exact ⟨y / 10, _, by go_num, by omega, hr1, left_next hy0 HL.out, hbl.trans hb1⟩
        case measure => simp [RowKit.intOf]; omega
      · have hz0 : (y : Int) % 10 = 0 := by omega
        go_wp2_with (at_builtin; refine prepend_byte rfl _ _ rfl w.heap.size wr u3 m rfl hr _ (48 + y % 10) rfl (by omega) (by omega) hm1 (by omega) ?_; intro b' w1 hr1 hb1)
        go_roundw
        case rel => exact ⟨y / 10, _, by go_num, by omega, hr1, left_next hy0 HL.out, hbl.trans hb1⟩
        case measure => simp [RowKit.intOf]; omega
    · obtain rfl : y = 0 := by omega
      have hm : m = decDigits u := by
        rcases HL.out with ⟨h, _⟩ | ⟨_, h⟩
        · omega
        · exact h
      subst hm
      go_wp2_with (at_builtin; refine prepend_byte rfl _ _ rfl w.heap.size wr u3 _ rfl hr _ 45 rfl rfl (by omega) (by omega) (by omega) ?_; intro b' w1 hr1 hb1; have hs1 := row_string hr1)
      go_ret
      exact ⟨rfl, hbl.trans hb1⟩

set_option maxHeartbeats 400000 in
theorem refDigits_nil (w : World) : Calls Tryd.prog 27 #[.int .i64 0] w fun e w' => e = .returned (.string ⟨#[48]⟩) ∧ w = w' := by
  go_enter Tryd.func27, Tryd.ntmps27
  go_wp2
  go_ret
  exact ⟨rfl, rfl⟩

theorem refDigits_any (v : Int) (w : World) (hv : IsInt v) : Calls Tryd.prog 27 #[.int .i64 v] w fun e w' => e = .returned (.string ⟨(itoa v).toArray⟩) ∧ Below w.heap.size w w' := by
  have h1 := hv.1
  have h2 := hv.2
  by_cases h0 : v = 0
  · subst h0
    have e : itoa 0 = [48] := by
      have := itoa_nonneg 0
      rw [decDigits_one (by decide)] at this
      exact this
    rw [e]
    refine (refDigits_nil w).mono ?_
    rintro e w' ⟨rfl, rfl⟩
    exact ⟨rfl, Below.refl _ _⟩
  · by_cases hp : 0 < v
    · obtain ⟨u, rfl⟩ : ∃ u : Nat, v = u := ⟨v.toNat, by omega⟩
      rw [itoa_nonneg]
      exact refDigits_pos u w (by omega) (by omega)
    · obtain ⟨u, rfl⟩ : ∃ u : Nat, v = -(u : Int) := ⟨v.natAbs, by omega⟩
      rw [itoa_neg u (by omega)]
      exact refDigits_neg u w (by omega) (by omega)
end Go.Proofs.YtdkafkdilmheiaaDoor
