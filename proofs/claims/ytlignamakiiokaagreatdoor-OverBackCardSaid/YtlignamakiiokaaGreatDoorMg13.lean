/-
  Rows of bytes that the call itself makes: append of a byte, of a text; the text of a row.
-/
import Derived.Test.YtlignamakiiokaaGreatDoorMg1
import Derived.Lib.AppendStr
import Derived.Lib.VarintMem
import Derived.Lib.UnsafeStr
import Derived.Laws.OwnMore
import Derived.Laws.MakeOwn
namespace Go.Proofs.YtlignamakiiokaaGreatDoor
open Go.RowKit Go.Lib

set_option maxRecDepth 100000 in
theorem Tryz.infoU8 : (Tryz.prog.info? 5).map (fun i => (i.zero, i.size, i.bytes)) = some (some (.int .u8 0), 1, 1) := by kernel_rfl

/-- v is a slice of the call's own, from block base on, that holds the bytes l. -/
def Row (w : World) (base : Nat) (v : Value) (l : List UInt8) : Prop := w.ownsRow base 5 1 v l.length (byteCells l)

set_option maxRecDepth 100000 in
theorem Row.nil_ (w : World) (base : Nat) : Row w base (.slice none 0 0) [] := World.ownsRow_nil w base 5 1






set_option maxRecDepth 100000 in
/-- string(b), b a row of the call's own. -/
theorem row_string {w : World} {base : Nat} {v : Value} {l : List UInt8} (h : Row w base v l) : (convert 85 9 v).run Tryz.prog w = .ok (.string ⟨l.toArray⟩) w := by
  rcases h.2 with ⟨rfl, hn⟩ | ⟨g, cap, cur, rfl, _, hg, hnc, _, _, htake⟩
  · obtain rfl : l = [] := List.eq_nil_of_length_eq_zero hn
    exact run_convert_bytes_nil w 85 5 Tryz.underlying85 Tryz.underlying5 0 0 9 Tryz.underlying9
  · have hcell : ∀ i, i < l.length → w.cell? ⟨g, 0 + i, none⟩ = some (.int .u8 ((l.map fun b => (b.toNat : Int)).getD i 0)) := by
      intro i hi
      rw [Nat.zero_add, cell_of_row w g i cur 5 (0, 0) hg]
      have h1 := congrArg (fun q : List Value => q[i]?) htake
      simp only [Nat.mul_one, List.getElem?_take, if_pos hi] at h1
      rw [← Array.getElem?_toList, h1]
      simp [byteCells, List.getD, hi]
    have := run_convert_bytes_arg w 85 5 Tryz.underlying85 Tryz.underlying5 g 0 l.length cap (l.map fun b => (b.toNat : Int)) (by simp) hcell 9 Tryz.underlying9
    rw [this]
    congr 2
    apply ByteArray.ext
    apply Array.ext'
    rw [strOfNums_data]
    simp [Function.comp_def]

set_option maxRecDepth 100000 in
/-- make([]byte, n): a row of n noughts of the call's own. -/
theorem make_bytes {ops : Array Oper} {rest : List Oper} {o : Oper} {a : Act} {Q : Exit → Act → World → Prop} (w : World) (hgd : o.guard = none) (l c : Operand) (hop : o.op = Op.makeSlice 85 l c)
    (n : Nat) (hl : a.eval l = .int .i64 n) (hc : a.eval c = .int .i64 n) (hn : n ≤ 70368744177664)
    (h : ∀ w', Row w' w.heap.size (.slice (some ⟨w.heap.size, 0, none⟩) n n) (List.replicate n 0) → Below w.heap.size w w' → wpList Tryz.prog ops Q rest (a.put o.dst (.slice (some ⟨w.heap.size, 0, none⟩) n n)) w') : wpList Tryz.prog ops Q (o :: rest) a w := by
  obtain ⟨i0, hi, hz0, hz1, hz2⟩ := info_parts Tryz.infoU8
  refine wpList_make_full w hgd l c 85 hop w.heap.size 5 i0 (.int .u8 0) 1 Tryz.underlying85 hi hz0 hz1 .i64 .i64 n n n hl hc rfl rfl (by rw [hz2]; omega) (by unfold maxLen; omega) (Nat.le_refl _) ?_
  intro w1 hown hgrow
  refine h w1 ?_ ((Below.refl _ _).grown hgrow (Nat.le_refl _) (fun k hk => by cases hk))
  have e := toList_madeCells_one (.int .u8 0) n
  have e2 : (Value.int .u8 0).cells = #[Value.int .u8 0] := rfl
  simp only [Nat.mul_one] at hown
  rw [e2, e] at hown
  unfold Row
  rw [List.length_replicate]
  have e3 : byteCells (List.replicate n 0) = List.replicate n (.int .u8 0) := by simp [byteCells]
  rw [e3]
  exact hown

end Go.Proofs.YtlignamakiiokaaGreatDoor
