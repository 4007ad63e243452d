/-
  Walks over package num: what lays numbers, texts and truths as bytes.
-/
import Derived.Test.YtdkafkdilmheiaaDoorW2
import Derived.Lib.AppendStr
import Derived.Lib.UnsafeStr
namespace Go.Proofs.YtdkafkdilmheiaaDoor
open Go.RowKit Go.Lib

theorem Tryd.infoU8 : (Tryd.prog.info? 5).map (fun i => (i.zero, i.size, i.bytes)) = some (some (.int .u8 0), 1, 1) := by kernel_rfl

/-- v is a slice of the call's own, from block base on, that holds the bytes l. -/
def Row (w : World) (base : Nat) (v : Value) (l : List UInt8) : Prop := w.ownsRow base 5 1 v l.length (byteCells l)

theorem Row.nil_ (w : World) (base : Nat) : Row w base (.slice none 0 0) [] := World.ownsRow_nil w base 5 1

/-- What an append leaves: a value v' that holds l, in a world that is the old one below base. -/
def Laid (base : Nat) (l : List UInt8) (w : World) (e : Ending) (w' : World) : Prop := ∃ v', e = .returned v' ∧ Row w' base v' l ∧ Below base w w'

theorem below_own {w w' : World} {base : Nat} {v : Value} {l : List UInt8} (hown : Row w base v l) (hg : w.grownBy w' v.ownBlock) (hb : base ≤ w.heap.size) : Below base w w' :=
  (Below.refl base w).grown hg hb (fun k hk => (World.ownsRow.lt hown k hk).1)

theorem row_snoc {w : World} {base : Nat} {v : Value} {l : List UInt8} {c : Nat} (hc : c < 256) (h : w.ownsRow base 5 1 v (l.length + 1) (byteCells l ++ [Value.int .u8 (c : Int)])) : Row w base v (l ++ [c.toUInt8]) := by
  unfold Row
  rw [byteCells_snoc l hc, List.length_append]
  exact h

/-- append(b, c): the law for a row of bytes of the call's own and one byte. -/
theorem append_byte {ops : Array Oper} {rest : List Oper} {o : Oper} {a : Act} {Q : Exit → Act → World → Prop} (hgd : o.guard = none) (s x : Operand)
    (ho : o.op = .call { callee := .builtin .append, args := #[s, x], argTypes := #[52, 52] })
    (base : Nat) (wr : World) (bv : Value) (m : List UInt8) (hs : a.eval s = bv) (hrow : Row wr base bv m) (c : Int) (n : Nat) (hx : a.eval x = .slice (some ⟨wr.heap.size, 0, none⟩) 1 1)
    (hc : c = n) (hn : n < 256) (hlen : m.length ≤ 70368744177664) (hbase : base ≤ wr.heap.size)
    (h : ∀ v' w', Row w' base v' (m ++ [n.toUInt8]) → Below base wr w' → wpList Tryd.prog ops Q rest (a.put o.dst v') w') : wpList Tryd.prog ops Q (o :: rest) a (wr.alloc (.cells #[.int .u8 c] 5)) := by
  obtain ⟨i0, hi, hz0, hz1, hz2⟩ := info_parts Tryd.infoU8
  have hra : Row (wr.alloc (.cells #[.int .u8 c] 5)) base bv m := World.ownsRow.alloc hrow _
  refine wpList_append_own _ hgd s x 52 ho base 5 i0 (.int .u8 0) 1 1 Tryd.underlying52 hi hz0 hz1 hz2 rfl (by decide) _ _ _ hs hra ⟨wr.heap.size, 0, none⟩ 1 1 [.int .u8 c] hx rfl
    (cell_one_new _ _ _) (by intro u hu; simp at hu; subst hu; rfl) (by unfold maxLen; omega) (by omega) (by simp; omega) ?_
  intro v' w' h1 h2 _
  subst hc
  exact h v' w' (row_snoc hn h1) (((Below.refl base wr).alloc hbase _).trans (below_own hra h2 (by simp; omega)))

/-- append(b, s...), s a string. -/
theorem append_str {ops : Array Oper} {rest : List Oper} {o : Oper} {a : Act} {Q : Exit → Act → World → Prop} (hgd : o.guard = none) (s x : Operand)
    (ho : o.op = .call { callee := .builtin .append, args := #[s, x], argTypes := #[52, 9] })
    (base : Nat) (wr : World) (bv : Value) (m : List UInt8) (hs : a.eval s = bv) (hrow : Row wr base bv m) (t : ByteArray) (hx : a.eval x = .string t)
    (hlen : m.length ≤ 35184372088832) (hlen2 : t.size ≤ 35184372088832) (hbase : base ≤ wr.heap.size)
    (h : ∀ v' w', Row w' base v' (m ++ t.data.toList) → Below base wr w' → wpList Tryd.prog ops Q rest (a.put o.dst v') w') : wpList Tryd.prog ops Q (o :: rest) a wr := by
  obtain ⟨i0, hi, hz0, hz1, hz2⟩ := info_parts Tryd.infoU8
  refine wpList_append_own_string wr hgd s x 52 9 ho base 5 i0 Tryd.underlying52 Tryd.underlying9 hi hz0 hz1 hz2 _ _ _ hs hrow t hx (by unfold maxLen; omega) (by omega) hbase ?_
  intro v' w' h1 h2 _
  refine h v' w' ?_ (below_own hrow h2 hbase)
  unfold Row
  rw [byteCells_append, List.length_append]
  exact h1

/-- string(b), b a row of the call's own. -/
theorem row_string {w : World} {base : Nat} {v : Value} {l : List UInt8} (h : Row w base v l) : (convert 52 9 v).run Tryd.prog w = .ok (.string ⟨l.toArray⟩) w := by
  rcases h.2 with ⟨rfl, hn⟩ | ⟨g, cap, cur, rfl, _, hg, hnc, _, _, htake⟩
  · obtain rfl : l = [] := List.eq_nil_of_length_eq_zero hn
    exact run_convert_bytes_nil w 52 5 Tryd.underlying52 Tryd.underlying5 0 0 9 Tryd.underlying9
  · have hcell : ∀ i, i < l.length → w.cell? ⟨g, 0 + i, none⟩ = some (.int .u8 ((l.map fun b => (b.toNat : Int)).getD i 0)) := by
      intro i hi
      rw [Nat.zero_add, cell_of_row w g i cur 5 (0, 0) hg]
      have h1 := congrArg (fun q : List Value => q[i]?) htake
      simp only [Nat.mul_one, List.getElem?_take, if_pos hi] at h1
      rw [← Array.getElem?_toList, h1]
      simp [byteCells, List.getD, hi]
    have := run_convert_bytes_arg w 52 5 Tryd.underlying52 Tryd.underlying5 g 0 l.length cap (l.map fun b => (b.toNat : Int)) (by simp) hcell 9 Tryd.underlying9
    rw [this]
    congr 2
    apply ByteArray.ext
    apply Array.ext'
    rw [strOfNums_data]
    simp [Function.comp_def]

theorem uv_last {m l : List UInt8} {u y : Nat} (h : m ++ uvarint y = l ++ uvarint u) (hy : ¬ 128 ≤ y) : m ++ [y.toUInt8] = l ++ uvarint u := by
  rw [← h, uvarint_small (by omega)]
theorem uv_more {m l : List UInt8} {u y : Nat} (h : m ++ uvarint y = l ++ uvarint u) (hy : 128 ≤ y) : (m ++ [(y % 128 + 128).toUInt8]) ++ uvarint (y / 128) = l ++ uvarint u := by
  rw [← h, uvarint_big hy]
  simp

set_option maxRecDepth 1000000 in
set_option maxHeartbeats 400000 in
theorem addVar_any (base : Nat) (bv : Value) (l : List UInt8) (v : Int) (w : World) (h0 : -9223372036854775808 ≤ v) (h1 : v ≤ 9223372036854775807) (hown : Row w base bv l) (hb : base ≤ w.heap.size) (hlen : l.length ≤ 35184372088832) :
    Calls Tryd.prog 41 #[bv, .int .i64 v] w (Laid base (l ++ uvarint (zigzag v)) w) := by
  have hz := zigzag_lt h0 h1
  generalize hu : zigzag v = u at hz ⊢
  have huns := uns_any v h0 h1 w
  rw [hu] at huns
  clear hu h0 h1
  go_enter Tryd.func41, Tryd.ntmps41
  go_wp2_with (go_at_call 49; refine huns.mono ?_; rintro e w' ⟨rfl, rfl⟩)
  go_loopw [0, 5] (fun b x wr => ∃ (y : Nat) (m : List UInt8), x = .int .u64 y ∧ y < 18446744073709551616 ∧ Row wr base b m ∧ m ++ uvarint y = l ++ uvarint u ∧ m.length + (uvarint y).length ≤ l.length + (uvarint u).length ∧ Below base w wr)
    (fun _ x _ => (intOf x).toNat)
  case atStart => exact ⟨u, l, rfl, hz, hown, rfl, Nat.le_refl _, Below.refl _ _⟩
  case round =>
    obtain ⟨y, m, rfl, hy, hr, hm, hml, hbl⟩ := hrel
    have h10 := uvarint_length64 hz
    have HM := Lib.hid hm
    have hbs := hbl.size
    have hlm : m.length ≤ 70368744177664 := by omega
    by_cases hge : 128 ≤ y
    · have hor : bits BinOp.or IntKind.u8 ((y : Int) % 256) 128 = ((y % 128 + 128 : Nat) : Int) := by rw [u8_or128_any _ (by omega) (by omega)]; omega
      have HOR := Lib.hid hor
      have hml2 : (uvarint (y / 128)).length + 1 = (uvarint y).length := by rw [uvarint_big hge]; rfl
      have HML : Hid ((m ++ [(y % 128 + 128).toUInt8]).length + (uvarint (y / 128)).length ≤ l.length + (uvarint u).length) := by show (m ++ _).length + _ ≤ _; simp; omega
      clear hm hml hor hml2
      go_wp2_with (at_builtin; go_must (refine append_byte rfl _ _ rfl base wr u0 m rfl hr _ (y % 128 + 128) rfl HOR.out (by omega) hlm (by omega) ?_); intro b' w1 hr1 hb1)
      go_roundw
      case rel => exact ⟨y / 128, m ++ [(y % 128 + 128).toUInt8], by go_num, by omega, hr1, uv_more HM.out hge, HML.out, hbl.trans hb1⟩
      case measure => simp [intOf]; omega
    · clear hm hml
      go_wp2_with (at_builtin; refine append_byte rfl _ _ rfl base wr u0 m rfl hr _ y rfl (by omega) (by omega) hlm (by omega) ?_; intro b' w1 hr1 hb1)
      rw [uv_last HM.out hge] at hr1
      go_ret
      exact ⟨_, rfl, hr1, hbl.trans hb1⟩
end Go.Proofs.YtdkafkdilmheiaaDoor
