/-
  Rows of bytes that the call itself makes: append of a byte, of a text; the text of a row.
-/
import Derived.Test.YthcpjpebahiikaaDoorMg1
import Derived.Lib.AppendStr
import Derived.Lib.VarintMem
import Derived.Lib.UnsafeStr
import Derived.Laws.OwnMore
import Derived.Laws.MakeOwn
namespace Go.Proofs.YthcpjpebahiikaaDoor
open Go.RowKit Go.Lib

set_option maxRecDepth 100000 in
theorem Tryd.infoU8 : (Tryd.prog.info? 5).map (fun i => (i.zero, i.size, i.bytes)) = some (some (.int .u8 0), 1, 1) := by kernel_rfl

/-- v is a slice of the call's own, from block base on, that holds the bytes l. -/
def Row (w : World) (base : Nat) (v : Value) (l : List UInt8) : Prop := w.ownsRow base 5 1 v l.length (byteCells l)

set_option maxRecDepth 100000 in
theorem Row.nil_ (w : World) (base : Nat) : Row w base (.slice none 0 0) [] := World.ownsRow_nil w base 5 1

/-- What an append leaves: a value v' that holds l, in a world that is the old one below base. -/
def Laid (base : Nat) (l : List UInt8) (w : World) (e : Ending) (w' : World) : Prop := ∃ v', e = .returned v' ∧ Row w' base v' l ∧ Below base w w'

set_option maxRecDepth 100000 in
theorem below_own {w w' : World} {base : Nat} {v : Value} {l : List UInt8} (hown : Row w base v l) (hg : w.grownBy w' v.ownBlock) (hb : base ≤ w.heap.size) : Below base w w' :=
  (Below.refl base w).grown hg hb (fun k hk => (World.ownsRow.lt hown k hk).1)

set_option maxRecDepth 100000 in
theorem row_snoc {w : World} {base : Nat} {v : Value} {l : List UInt8} {c : Nat} (hc : c < 256) (h : w.ownsRow base 5 1 v (l.length + 1) (byteCells l ++ [Value.int .u8 (c : Int)])) : Row w base v (l ++ [c.toUInt8]) := by
  unfold Row
  rw [byteCells_snoc l hc, List.length_append]
  exact h

set_option maxRecDepth 100000 in
/-- append(b, c): the law for a row of bytes of the call's own and one byte. -/
theorem append_byte {ops : Array Oper} {rest : List Oper} {o : Oper} {a : Act} {Q : Exit → Act → World → Prop} (hgd : o.guard = none) (s x : Operand)
    (ho : o.op = .call { callee := .builtin .append, args := #[s, x], argTypes := #[29, 29] })
    (base : Nat) (wr : World) (bv : Value) (m : List UInt8) (hs : a.eval s = bv) (hrow : Row wr base bv m) (c : Int) (n : Nat) (hx : a.eval x = .slice (some ⟨wr.heap.size, 0, none⟩) 1 1)
    (hc : c = n) (hn : n < 256) (hlen : m.length ≤ 70368744177664) (hbase : base ≤ wr.heap.size)
    (h : ∀ v' w', Row w' base v' (m ++ [n.toUInt8]) → Below base wr w' → wpList Tryd.prog ops Q rest (a.put o.dst v') w') : wpList Tryd.prog ops Q (o :: rest) a (wr.alloc (.cells #[.int .u8 c] 5)) := by
  obtain ⟨i0, hi, hz0, hz1, hz2⟩ := info_parts Tryd.infoU8
  have hra : Row (wr.alloc (.cells #[.int .u8 c] 5)) base bv m := World.ownsRow.alloc hrow _
  refine wpList_append_own _ hgd s x 29 ho base 5 i0 (.int .u8 0) 1 1 Tryd.underlying29 hi hz0 hz1 hz2 rfl (by decide) _ _ _ hs hra ⟨wr.heap.size, 0, none⟩ 1 1 [.int .u8 c] hx rfl
    (cell_one_new _ _ _) (by intro u hu; simp at hu; subst hu; rfl) (by unfold maxLen; omega) (by omega) (by simp; omega) ?_
  intro v' w' h1 h2 _
  subst hc
  exact h v' w' (row_snoc hn h1) (((Below.refl base wr).alloc hbase _).trans (below_own hra h2 (by simp; omega)))

set_option maxRecDepth 100000 in
/-- append(b, s...), s a string. -/
theorem append_str {ops : Array Oper} {rest : List Oper} {o : Oper} {a : Act} {Q : Exit → Act → World → Prop} (hgd : o.guard = none) (s x : Operand)
    (ho : o.op = .call { callee := .builtin .append, args := #[s, x], argTypes := #[29, 9] })
    (base : Nat) (wr : World) (bv : Value) (m : List UInt8) (hs : a.eval s = bv) (hrow : Row wr base bv m) (t : ByteArray) (hx : a.eval x = .string t)
    (hlen : m.length ≤ 35184372088832) (hlen2 : t.size ≤ 35184372088832) (hbase : base ≤ wr.heap.size)
    (h : ∀ v' w', Row w' base v' (m ++ t.data.toList) → Below base wr w' → wpList Tryd.prog ops Q rest (a.put o.dst v') w') : wpList Tryd.prog ops Q (o :: rest) a wr := by
  obtain ⟨i0, hi, hz0, hz1, hz2⟩ := info_parts Tryd.infoU8
  refine wpList_append_own_string wr hgd s x 29 9 ho base 5 i0 Tryd.underlying29 Tryd.underlying9 hi hz0 hz1 hz2 _ _ _ hs hrow t hx (by unfold maxLen; omega) (by omega) hbase ?_
  intro v' w' h1 h2 _
  refine h v' w' ?_ (below_own hrow h2 hbase)
  unfold Row
  rw [byteCells_append, List.length_append]
  exact h1

set_option maxRecDepth 100000 in
/-- string(b), b a row of the call's own. -/
theorem row_string {w : World} {base : Nat} {v : Value} {l : List UInt8} (h : Row w base v l) : (convert 29 9 v).run Tryd.prog w = .ok (.string ⟨l.toArray⟩) w := by
  rcases h.2 with ⟨rfl, hn⟩ | ⟨g, cap, cur, rfl, _, hg, hnc, _, _, htake⟩
  · obtain rfl : l = [] := List.eq_nil_of_length_eq_zero hn
    exact run_convert_bytes_nil w 29 5 Tryd.underlying29 Tryd.underlying5 0 0 9 Tryd.underlying9
  · have hcell : ∀ i, i < l.length → w.cell? ⟨g, 0 + i, none⟩ = some (.int .u8 ((l.map fun b => (b.toNat : Int)).getD i 0)) := by
      intro i hi
      rw [Nat.zero_add, cell_of_row w g i cur 5 (0, 0) hg]
      have h1 := congrArg (fun q : List Value => q[i]?) htake
      simp only [Nat.mul_one, List.getElem?_take, if_pos hi] at h1
      rw [← Array.getElem?_toList, h1]
      simp [byteCells, List.getD, hi]
    have := run_convert_bytes_arg w 29 5 Tryd.underlying29 Tryd.underlying5 g 0 l.length cap (l.map fun b => (b.toNat : Int)) (by simp) hcell 9 Tryd.underlying9
    rw [this]
    congr 2
    apply ByteArray.ext
    apply Array.ext'
    rw [strOfNums_data]
    simp [Function.comp_def]

set_option maxRecDepth 100000 in
/-- make([]byte, n): a row of n noughts of the call's own. -/
theorem make_bytes {ops : Array Oper} {rest : List Oper} {o : Oper} {a : Act} {Q : Exit → Act → World → Prop} (w : World) (hgd : o.guard = none) (l c : Operand) (hop : o.op = Op.makeSlice 29 l c)
    (n : Nat) (hl : a.eval l = .int .i64 n) (hc : a.eval c = .int .i64 n) (hn : n ≤ 70368744177664)
    (h : ∀ w', Row w' w.heap.size (.slice (some ⟨w.heap.size, 0, none⟩) n n) (List.replicate n 0) → Below w.heap.size w w' → wpList Tryd.prog ops Q rest (a.put o.dst (.slice (some ⟨w.heap.size, 0, none⟩) n n)) w') : wpList Tryd.prog ops Q (o :: rest) a w := by
  obtain ⟨i0, hi, hz0, hz1, hz2⟩ := info_parts Tryd.infoU8
  refine wpList_make_full w hgd l c 29 hop w.heap.size 5 i0 (.int .u8 0) 1 Tryd.underlying29 hi hz0 hz1 .i64 .i64 n n n hl hc rfl rfl (by rw [hz2]; omega) (by unfold maxLen; omega) (Nat.le_refl _) ?_
  intro w1 hown hgrow
  refine h w1 ?_ ((Below.refl _ _).grown hgrow (Nat.le_refl _) (fun k hk => by cases hk))
  have e := toList_madeCells_one (.int .u8 0) n
  have e2 : (Value.int .u8 0).cells = #[Value.int .u8 0] := rfl
  simp only [Nat.mul_one] at hown
  rw [e2, e] at hown
  unfold Row
  rw [List.length_replicate]
  have e3 : byteCells (List.replicate n 0) = List.replicate n (.int .u8 0) := by simp [byteCells]
  rw [e3]
  exact hown

set_option maxRecDepth 100000 in
theorem below_drewN {B : Nat} {w wr : World} (h : Below B w wr) (k : Nat) : Below B w (wr.drewN k) := h.trans ⟨rfl, rfl, rfl, Nat.le_refl _, fun _ _ => rfl⟩
end Go.Proofs.YthcpjpebahiikaaDoor
