/-
  A region whose order is open, of which the last operation writes where others have read: what the reads lean on is asked behind every operation but that last one, which waits for all of them. A select of one case with a default, in one goroutine, as a law of the walk. Walks over package dev's line of waiting writes: a channel that is asked by a select with a default. Walks over package dev's line of waiting writes: a write is put, the line is widened, a twin is made. Walks over package dev's line of waiting writes: a write is put whatever room there is; a twin is made. Rows of bytes that the call itself makes: append of a byte, of a text; the text of a row. Walks: what stays of a write, sector by sector. A device in memory, and walks over the calls that only look at it, or turn a flag. append of one element to a row of one's own: the row stays in its block, or lies in a new one. A device in memory: its lists of pages turn. Walks: New, Grow.
-/
import Derived.Test.YtpoocbkligjgbaaGreatDoorMg1
import Derived.OrdersHeld
import Derived.Conc.LoneSelect
import Derived.Conc.LoneSelectN
import Derived.LoopN
import Derived.Deep.LoopGhost
import Derived.Conc.SmallLaws
import Derived.Lib.AppendStr
import Derived.Lib.VarintMem
import Derived.Lib.UnsafeStr
import Derived.Laws.OwnMore
import Derived.Laws.MakeOwn
import Derived.Laws.BitsLemmas
import Derived.Test.YtpoocbkligjgbaaGreatDoorShelf
import Derived.Laws.AppendOwnNone
namespace Go.Proofs.YtpoocbkligjgbaaGreatDoor
open Go.RowKit

section
variable {P : Program} {ops : Array Oper} {Q : Exit → Act → World → Prop} {md : Region.Mode} {S : World → Prop} {last : Nat}

/-- Whatever order is picked from here on; S holds behind every operation but the last one. -/
def AnyTill (P : Program) (md : Region.Mode) (ops : Array Oper) (Q : Exit → Act → World → Prop) (S : World → Prop) (last : Nat) : Nat → Array Bool → Act → World → Prop
  | 0, seen, a, w => Region.ready md ops seen = [] ∧ Q .normal a w
  | n + 1, seen, a, w => (Region.ready md ops seen = [] → Q .normal a w) ∧ ∀ i ∈ Region.ready md ops seen, wpOp P ops Q i (fun a' w' => (i ≠ last → S w') ∧ AnyTill P md ops Q S last n (seen.setIfInBounds i true) a' w') a w

theorem anyTill_any : ∀ (n : Nat) (seen : Array Bool) (a : Act) (w : World), AnyTill P md ops Q S last n seen a w → wpAny P md ops Q n seen a w
  | 0, _, _, _, h => h
  | n + 1, _, _, _, h => ⟨h.1, fun i hi => wpOp_mono (fun a' w' hh => anyTill_any n _ a' w' hh.2) (h.2 i hi)⟩

/-- Does operation j wait for operation i? -/
def waitsOn (md : Region.Mode) (ops : Array Oper) (j i : Nat) : Bool := ((ops[j]?).map fun o => o.after.any fun e => Region.binds md e && e.on == i).getD false

theorem not_ready {seen : Array Bool} {i j : Nat} (h : waitsOn md ops j i = true) (hi : seen.getD i true = false) : j ∉ Region.ready md ops seen := by
  intro hj
  obtain ⟨_, oj, hoj, hall⟩ := mem_ready.1 hj
  unfold waitsOn at h
  rw [hoj] at h
  simp only [Option.map_some, Option.getD_some, Array.any_eq_true', Bool.and_eq_true, beq_iff_eq] at h
  obtain ⟨e, he, hb, rfl⟩ := h
  have h1 := hall e he hb
  rcases Nat.lt_or_ge e.on seen.size with hlt | hge
  · simp [hlt] at hi h1
    rw [hi] at h1
    cases h1
  · simp [Array.getElem?_eq_none hge] at h1

theorem anyTill_take {i : Nat} {oi : Oper} {v : Value} {n : Nat} {seen : Array Bool} {a : Act} {w : World} (hi : ops[i]? = some oi) (hs : Region.noSelect ops = true) (hf : Region.free md ops seen i = true)
    (hr : (Region.ready md ops seen).contains i = true) (hw : waitsOn md ops last i = true) (hQ : ∀ c a w, Q (.panic c) (a.put oi.dst v) w → Q (.panic c) a w) (hy : YieldsIf P ops S oi v a) (hS : S w)
    (h : AnyTill P md ops Q S last n (seen.setIfInBounds i true) (a.put oi.dst v) w) : AnyTill P md ops Q S last (n + 1) seen a w := by
  have hsel := Region.noSelect_spec hs
  have key : ∀ (n : Nat) (seen : Array Bool) (a : Act) (w : World), (∀ j oj, ops[j]? = some oj → j ≠ i → seen.getD j true = false → (∀ e ∈ oj.after, Region.binds md e = true → e.on ≠ i) → oi.apart ops oj = true) →
      i ∈ Region.ready md ops seen → YieldsIf P ops S oi v a → S w → AnyTill P md ops Q S last n (seen.setIfInBounds i true) (a.put oi.dst v) w → AnyTill P md ops Q S last (n + 1) seen a w := by
    intro n
    induction n with
    | zero =>
      intro seen a w _ hr hy hS H
      refine ⟨(fun h0 => by rw [h0] at hr; cases hr), fun j hj => ?_⟩
      by_cases hji : j = i
      · subst hji
        exact hy.wpOp hi hS ⟨fun _ => hS, H⟩
      · have h1 := ready_mono hj hji
        rw [H.1] at h1
        cases h1
    | succ n ih =>
      intro seen a w hap hr hy hS H
      refine ⟨(fun h0 => by rw [h0] at hr; cases hr), fun j hj => ?_⟩
      by_cases hji : j = i
      · subst hji
        exact hy.wpOp hi hS ⟨fun _ => hS, H⟩
      · have hun := (mem_ready.1 hr).1
        have hjl : j ≠ last := fun e => not_ready (seen := seen) hw hun (e ▸ hj)
        obtain ⟨hjun, oj, hoj, hall⟩ := mem_ready.1 hj
        have hno : ∀ e ∈ oj.after, Region.binds md e = true → e.on ≠ i := fun e he hb heq => by
          have h1 := hall e he hb
          rw [heq] at h1
          rcases Nat.lt_or_ge i seen.size with hlt | hge
          · simp [hlt] at hun h1
            rw [hun] at h1
            cases h1
          · simp [Array.getElem?_eq_none hge] at h1
        have h2 := wpOp_putIf hoj (hap j oj hoj hji hjun hno) (fun cs b => hsel i oi cs b hi) (fun cs b => hsel j oj cs b hoj) hQ hy (H.2 j (ready_mono hj hji))
        refine wpOp_mono (fun a' w' h3 => ⟨h3.2.1, ih (seen.setIfInBounds j true) a' w' (fun k ok hk hki hu hn => hap k ok hk hki ?_ hn) (ready_mono hr (Ne.symm hji)) h3.1 (h3.2.1 hjl) ?_⟩) h2
        · by_cases hjk : j = k
          · subst hjk
            exact hjun
          · rw [getD_set_ne true hjk] at hu
            exact hu
        · rw [Array.setIfInBounds_comm _ _ hji]
          exact h3.2.2
  exact key n seen a w (Region.free_spec hi hf) (by simpa using hr) hy hS h

/-- The same, its slot named. -/
theorem anyTill_takeAt (d : Nat) {i : Nat} {oi : Oper} {v : Value} {n : Nat} {seen : Array Bool} {a : Act} {w : World} (hi : ops[i]? = some oi) (hd : oi.dst = some d) (hs : Region.noSelect ops = true) (hf : Region.free md ops seen i = true)
    (hr : (Region.ready md ops seen).contains i = true) (hw : waitsOn md ops last i = true) (hQ : ∀ c a w, Q (.panic c) (a.put (some d) v) w → Q (.panic c) a w) (hy : YieldsIf P ops S oi v a) (hS : S w)
    (h : AnyTill P md ops Q S last n (seen.setIfInBounds i true) ⟨a.tmps.setIfInBounds d v, a.defers⟩ w) : AnyTill P md ops Q S last (n + 1) seen a w :=
  anyTill_take hi hs hf hr hw (by rw [hd]; exact hQ) hy hS (by rw [hd]; exact h)

/-- The one operation that may come up. -/
theorem anyTill_one {i : Nat} {o : Oper} {n : Nat} {seen : Array Bool} {a : Act} {w : World} (hr : Region.ready md ops seen = [i]) (hi : ops[i]? = some o) (hg : o.guard = none)
    (h : ∀ K : Act → World → Prop, (∀ a' w', ((i ≠ last → S w') ∧ AnyTill P md ops Q S last n (seen.setIfInBounds i true) a' w') → K a' w') → o.wp P a w K Q) : AnyTill P md ops Q S last (n + 1) seen a w := by
  refine ⟨(fun h0 => by rw [hr] at h0; cases h0), fun j hj => ?_⟩
  rw [hr] at hj
  obtain rfl : j = i := by simpa using hj
  unfold wpOp
  simp only [hi]
  rw [if_pos (by simp [Region.wanted, hg])]
  exact .inl (h _ fun _ _ hh => hh)

theorem anyTill_done {seen : Array Bool} {a : Act} {w : World} (hr : Region.ready md ops seen = []) (h : Q .normal a w) : ∀ n, AnyTill P md ops Q S last n seen a w
  | 0 => ⟨hr, h⟩
  | _ + 1 => ⟨fun _ => h, by rw [hr]; simp⟩

theorem wp_region_till (S : World → Prop) (last : Nat) {id : Nat} {a : Act} {w : World} (hm : P.follows .mixedOrders = true) (h : AnyTill P .any ops Q S last ops.size (Array.replicate ops.size false) a w.drew) : (Code.region id ops true).wp P Q a w :=
  wp_region_any hm (anyTill_any _ _ _ _ h)
end
end Go.Proofs.YtpoocbkligjgbaaGreatDoor

namespace Go.Proofs.YtpoocbkligjgbaaGreatDoor
open Go.RowKit

section
variable {F : List Nat} {a b : World}
theorem Kept.setChan (h : Kept F a b) {k : Nat} (hp : k ∈ F ∨ a.heap.size ≤ k) (cap : Nat) (buf : Array Value) (cl : Bool) (s r : Nat) (tm : Bool) : Kept F a (b.setChan k cap buf cl s r tm) :=
  ⟨h.os, h.tape, h.output, by simpa [World.setChan] using h.size, fun i hi hn => by
    have hne : k ≠ i := fun e => by subst e; exact hp.elim hn (fun h2 => absurd hi (by omega))
    rw [← h.block i hi hn]
    simp [World.setChan, Array.getElem?_setIfInBounds_ne hne]⟩
end

/-! ### A select of one case with a default -/



section
variable {P : Program} {Q : Exit → Act → World → Prop} {a : Act} {w : World}






end

end Go.Proofs.YtpoocbkligjgbaaGreatDoor

namespace Go.Proofs.YtpoocbkligjgbaaGreatDoor
open Go.RowKit Go.Lib

/-- A write that waits, as a value. -/
def wv (x : Int × ByteArray) : Value := .agg #[.int .i64 x.1, .string x.2]
def chanOf (cap : Nat) (l : List (Int × ByteArray)) (s r : Nat) : Obj := .chan cap (l.map wv).toArray false s r false

/-- In cell o of block g, which has the cells cs of type t, stands a line: l waits in it, there is room for cap. -/
structure LineAt (w : World) (g : Nat) (t : TypeId) (cs : Array Value) (o : Nat) (l : List (Int × ByteArray)) (cap : Nat) (ch : Option Nat) : Prop where
  has : Has w g t cs
  cell : cs[o]? = some (.chan ch)
  nil_ : ch = none → l = [] ∧ cap = 0
  full : ∀ c, ch = some c → ∃ s r, w.heap[c]? = some (chanOf cap l s r)
  le : l.length ≤ cap
  wide : ∀ c, ch = some c → 16 ≤ cap

theorem LineAt.ne {w : World} {g : Nat} {t : TypeId} {cs : Array Value} {o : Nat} {l : List (Int × ByteArray)} {cap c : Nat} (h : LineAt w g t cs o l cap (some c)) : g ≠ c := by
  intro e
  subst e
  obtain ⟨s, r, h2⟩ := h.full _ rfl
  have h1 := h.has
  unfold Has at h1
  rw [h1] at h2
  cases h2

/-- A world with one more block, and another content of a channel. -/
theorem LineAt.turned {w w1 : World} {g : Nat} {t : TypeId} {cs : Array Value} {o : Nat} {l l' : List (Int × ByteArray)} {cap c s r : Nat} (h : LineAt w g t cs o l cap (some c)) (hk : Kept [] w w1) (hl : l'.length ≤ cap) :
    LineAt (w1.setChan c cap ((l'.map wv).toArray) false s r false) g t cs o l' cap (some c) ∧ Kept [c] w (w1.setChan c cap ((l'.map wv).toArray) false s r false) := by
  obtain ⟨s0, r0, hc⟩ := h.full _ rfl
  have hcl := (Array.getElem?_eq_some_iff.1 hc).1
  have hk2 : Kept [c] w (w1.setChan c cap ((l'.map wv).toArray) false s r false) := (hk.mono (by simp)).setChan (.inl (by simp)) _ _ _ _ _ _
  refine ⟨⟨h.has.kept hk2 (by simpa using h.ne), h.cell, (fun e => by cases e), fun c' e => ?_, hl, fun _ _ => h.wide c rfl⟩, hk2⟩
  cases e
  exact ⟨s, r, Conc.heap_setChan _ _ _ _ _ _ _ _ (Nat.lt_of_lt_of_le hcl hk.size)⟩
theorem LineAt.kept {w w1 : World} {F : List Nat} {g : Nat} {t : TypeId} {cs : Array Value} {o : Nat} {l : List (Int × ByteArray)} {cap : Nat} {ch : Option Nat} (h : LineAt w g t cs o l cap ch) (hk : Kept F w w1) (hg : g ∉ F) (hc : ∀ c, ch = some c → c ∉ F) :
    LineAt w1 g t cs o l cap ch := by
  refine ⟨h.has.kept hk hg, h.cell, h.nil_, fun c e => ?_, h.le, h.wide⟩
  obtain ⟨s, r, h2⟩ := h.full c e
  exact ⟨s, r, chan_kept h2 hk (hc c e)⟩




end Go.Proofs.YtpoocbkligjgbaaGreatDoor

namespace Go.Proofs.YtpoocbkligjgbaaGreatDoor
open Go.RowKit Go.Lib



theorem LineAt.off {w : World} {g : Nat} {t : TypeId} {cs : Array Value} {o : Nat} {l : List (Int × ByteArray)} {cap : Nat} {ch : Option Nat} (h : LineAt w g t cs o l cap ch) : o < cs.size := (Array.getElem?_eq_some_iff.1 h.cell).1



end Go.Proofs.YtpoocbkligjgbaaGreatDoor

namespace Go.Proofs.YtpoocbkligjgbaaGreatDoor
open Go.RowKit Go.Lib






theorem LineAt.chlt {w : World} {g : Nat} {t : TypeId} {cs : Array Value} {o : Nat} {l : List (Int × ByteArray)} {cap c : Nat} (h : LineAt w g t cs o l cap (some c)) : c < w.heap.size := by
  obtain ⟨s1, r1, h1⟩ := h.full c rfl
  exact (Array.getElem?_eq_some_iff.1 h1).1
end Go.Proofs.YtpoocbkligjgbaaGreatDoor

namespace Go.Proofs.YtpoocbkligjgbaaGreatDoor
open Go.RowKit Go.Lib

set_option maxRecDepth 100000 in
theorem Tryz.infoU8 : (Tryz.prog.info? 5).map (fun i => (i.zero, i.size, i.bytes)) = some (some (.int .u8 0), 1, 1) := by kernel_rfl

/-- v is a slice of the call's own, from block base on, that holds the bytes l. -/
def Row (w : World) (base : Nat) (v : Value) (l : List UInt8) : Prop := w.ownsRow base 5 1 v l.length (byteCells l)

set_option maxRecDepth 100000 in
theorem Row.nil_ (w : World) (base : Nat) : Row w base (.slice none 0 0) [] := World.ownsRow_nil w base 5 1

/-- What an append leaves: a value v' that holds l, in a world that is the old one below base. -/
def Laid (base : Nat) (l : List UInt8) (w : World) (e : Ending) (w' : World) : Prop := ∃ v', e = .returned v' ∧ Row w' base v' l ∧ Below base w w'

set_option maxRecDepth 100000 in
theorem below_own {w w' : World} {base : Nat} {v : Value} {l : List UInt8} (hown : Row w base v l) (hg : w.grownBy w' v.ownBlock) (hb : base ≤ w.heap.size) : Below base w w' :=
  (Below.refl base w).grown hg hb (fun k hk => (World.ownsRow.lt hown k hk).1)

set_option maxRecDepth 100000 in
theorem row_snoc {w : World} {base : Nat} {v : Value} {l : List UInt8} {c : Nat} (hc : c < 256) (h : w.ownsRow base 5 1 v (l.length + 1) (byteCells l ++ [Value.int .u8 (c : Int)])) : Row w base v (l ++ [c.toUInt8]) := by
  unfold Row
  rw [byteCells_snoc l hc, List.length_append]
  exact h

set_option maxRecDepth 100000 in
/-- append(b, c): the law for a row of bytes of the call's own and one byte. -/
theorem append_byte {ops : Array Oper} {rest : List Oper} {o : Oper} {a : Act} {Q : Exit → Act → World → Prop} (hgd : o.guard = none) (s x : Operand)
    (ho : o.op = .call { callee := .builtin .append, args := #[s, x], argTypes := #[223, 223] })
    (base : Nat) (wr : World) (bv : Value) (m : List UInt8) (hs : a.eval s = bv) (hrow : Row wr base bv m) (c : Int) (n : Nat) (hx : a.eval x = .slice (some ⟨wr.heap.size, 0, none⟩) 1 1)
    (hc : c = n) (hn : n < 256) (hlen : m.length ≤ 70368744177664) (hbase : base ≤ wr.heap.size)
    (h : ∀ v' w', Row w' base v' (m ++ [n.toUInt8]) → Below base wr w' → wpList Tryz.prog ops Q rest (a.put o.dst v') w') : wpList Tryz.prog ops Q (o :: rest) a (wr.alloc (.cells #[.int .u8 c] 5)) := by
  obtain ⟨i0, hi, hz0, hz1, hz2⟩ := info_parts Tryz.infoU8
  have hra : Row (wr.alloc (.cells #[.int .u8 c] 5)) base bv m := World.ownsRow.alloc hrow _
  refine wpList_append_own _ hgd s x 223 ho base 5 i0 (.int .u8 0) 1 1 Tryz.underlying223 hi hz0 hz1 hz2 rfl (by decide) _ _ _ hs hra ⟨wr.heap.size, 0, none⟩ 1 1 [.int .u8 c] hx rfl
    (cell_one_new _ _ _) (by intro u hu; simp at hu; subst hu; rfl) (by unfold maxLen; omega) (by omega) (by simp; omega) ?_
  intro v' w' h1 h2 _
  subst hc
  exact h v' w' (row_snoc hn h1) (((Below.refl base wr).alloc hbase _).trans (below_own hra h2 (by simp; omega)))

set_option maxRecDepth 100000 in
/-- append(b, s...), s a string. -/
theorem append_str {ops : Array Oper} {rest : List Oper} {o : Oper} {a : Act} {Q : Exit → Act → World → Prop} (hgd : o.guard = none) (s x : Operand)
    (ho : o.op = .call { callee := .builtin .append, args := #[s, x], argTypes := #[223, 9] })
    (base : Nat) (wr : World) (bv : Value) (m : List UInt8) (hs : a.eval s = bv) (hrow : Row wr base bv m) (t : ByteArray) (hx : a.eval x = .string t)
    (hlen : m.length ≤ 35184372088832) (hlen2 : t.size ≤ 35184372088832) (hbase : base ≤ wr.heap.size)
    (h : ∀ v' w', Row w' base v' (m ++ t.data.toList) → Below base wr w' → wpList Tryz.prog ops Q rest (a.put o.dst v') w') : wpList Tryz.prog ops Q (o :: rest) a wr := by
  obtain ⟨i0, hi, hz0, hz1, hz2⟩ := info_parts Tryz.infoU8
  refine wpList_append_own_string wr hgd s x 223 9 ho base 5 i0 Tryz.underlying223 Tryz.underlying9 hi hz0 hz1 hz2 _ _ _ hs hrow t hx (by unfold maxLen; omega) (by omega) hbase ?_
  intro v' w' h1 h2 _
  refine h v' w' ?_ (below_own hrow h2 hbase)
  unfold Row
  rw [byteCells_append, List.length_append]
  exact h1

set_option maxRecDepth 100000 in
/-- string(b), b a row of the call's own. -/
theorem row_string {w : World} {base : Nat} {v : Value} {l : List UInt8} (h : Row w base v l) : (convert 223 9 v).run Tryz.prog w = .ok (.string ⟨l.toArray⟩) w := by
  rcases h.2 with ⟨rfl, hn⟩ | ⟨g, cap, cur, rfl, _, hg, hnc, _, _, htake⟩
  · obtain rfl : l = [] := List.eq_nil_of_length_eq_zero hn
    exact run_convert_bytes_nil w 223 5 Tryz.underlying223 Tryz.underlying5 0 0 9 Tryz.underlying9
  · have hcell : ∀ i, i < l.length → w.cell? ⟨g, 0 + i, none⟩ = some (.int .u8 ((l.map fun b => (b.toNat : Int)).getD i 0)) := by
      intro i hi
      rw [Nat.zero_add, cell_of_row w g i cur 5 (0, 0) hg]
      have h1 := congrArg (fun q : List Value => q[i]?) htake
      simp only [Nat.mul_one, List.getElem?_take, if_pos hi] at h1
      rw [← Array.getElem?_toList, h1]
      simp [byteCells, List.getD, hi]
    have := run_convert_bytes_arg w 223 5 Tryz.underlying223 Tryz.underlying5 g 0 l.length cap (l.map fun b => (b.toNat : Int)) (by simp) hcell 9 Tryz.underlying9
    rw [this]
    congr 2
    apply ByteArray.ext
    apply Array.ext'
    rw [strOfNums_data]
    simp [Function.comp_def]

set_option maxRecDepth 100000 in
/-- make([]byte, n): a row of n noughts of the call's own. -/
theorem make_bytes {ops : Array Oper} {rest : List Oper} {o : Oper} {a : Act} {Q : Exit → Act → World → Prop} (w : World) (hgd : o.guard = none) (l c : Operand) (hop : o.op = Op.makeSlice 223 l c)
    (n : Nat) (hl : a.eval l = .int .i64 n) (hc : a.eval c = .int .i64 n) (hn : n ≤ 70368744177664)
    (h : ∀ w', Row w' w.heap.size (.slice (some ⟨w.heap.size, 0, none⟩) n n) (List.replicate n 0) → Below w.heap.size w w' → wpList Tryz.prog ops Q rest (a.put o.dst (.slice (some ⟨w.heap.size, 0, none⟩) n n)) w') : wpList Tryz.prog ops Q (o :: rest) a w := by
  obtain ⟨i0, hi, hz0, hz1, hz2⟩ := info_parts Tryz.infoU8
  refine wpList_make_full w hgd l c 223 hop w.heap.size 5 i0 (.int .u8 0) 1 Tryz.underlying223 hi hz0 hz1 .i64 .i64 n n n hl hc rfl rfl (by rw [hz2]; omega) (by unfold maxLen; omega) (Nat.le_refl _) ?_
  intro w1 hown hgrow
  refine h w1 ?_ ((Below.refl _ _).grown hgrow (Nat.le_refl _) (fun k hk => by cases hk))
  have e := toList_madeCells_one (.int .u8 0) n
  have e2 : (Value.int .u8 0).cells = #[Value.int .u8 0] := rfl
  simp only [Nat.mul_one] at hown
  rw [e2, e] at hown
  unfold Row
  rw [List.length_replicate]
  have e3 : byteCells (List.replicate n 0) = List.replicate n (.int .u8 0) := by simp [byteCells]
  rw [e3]
  exact hown

end Go.Proofs.YtpoocbkligjgbaaGreatDoor

namespace Go.Proofs.YtpoocbkligjgbaaGreatDoor
open Go.RowKit Go.Lib

/-- Does keep bear bit i? -/
def kept (keep : Int) (i : Nat) : Bool := decide (keep / 2 ^ i % 2 = 1)






end Go.Proofs.YtpoocbkligjgbaaGreatDoor

namespace Go.Proofs.YtpoocbkligjgbaaGreatDoor
open Go.RowKit Go.Lib

/-- A device: what it is in Go's words. -/
structure DevS where
  most : Int
  on : Bool
  fuse : Int
  pages : List ByteArray
  synced : List ByteArray
  line : List (Int × ByteArray)
  cap : Nat

def devCells (s : DevS) (pv sv : Value) (ch : Option Nat) : Array Value := #[.int .i64 s.most, .bool s.on, .int .i64 s.fuse, pv, sv, .chan ch]

/-- What holds of every device that was made. -/
structure DevOK (s : DevS) : Prop where
  most : 0 ≤ s.most ∧ s.most ≤ 3000
  fuse : -1 ≤ s.fuse ∧ s.fuse ≤ 9223372036854775807
  len : s.synced.length = s.pages.length
  few : s.pages.length ≤ 3000
  pages : ∀ x ∈ s.pages, x.size = 256
  synced : ∀ x ∈ s.synced, x.size = 256
  line : ∀ x ∈ s.line, 0 ≤ x.1 ∧ x.1 < s.pages.length ∧ x.2.size = 256

/-- The blocks of a device. -/
def devBlocks (p : Nat) (pv sv : Value) (ch : Option Nat) : List Nat := p :: (pv.ownBlock.toList ++ (sv.ownBlock.toList ++ ch.toList))

/-- At block p stands the device s; its blocks are F. -/
def DevAt (w : World) (p : Nat) (s : DevS) (F : List Nat) : Prop :=
  ∃ (pv sv : Value) (ch : Option Nat), LineAt w p 181 (devCells s pv sv ch) 5 s.line s.cap ch ∧ w.ownsRow 0 9 1 pv s.pages.length (s.pages.map Value.string) ∧ w.ownsRow 0 9 1 sv s.synced.length (s.synced.map Value.string) ∧
    F = devBlocks p pv sv ch ∧ F.Nodup ∧ DevOK s

theorem LineAt.putOther {w : World} {g : Nat} {t : TypeId} {cs : Array Value} {o : Nat} {l : List (Int × ByteArray)} {cap : Nat} {ch : Option Nat} (h : LineAt w g t cs o l cap ch) (i : Nat) (hi : i ≠ o) (u : Value) :
    LineAt (w.setCell ⟨g, i, none⟩ u) g t (cs.setIfInBounds i u) o l cap ch := by
  refine ⟨h.has.put i u, by rw [Array.getElem?_setIfInBounds_ne hi]; exact h.cell, h.nil_, fun c e => ?_, h.le, h.wide⟩
  subst e
  obtain ⟨s, r, hc⟩ := h.full c rfl
  exact ⟨s, r, (Below.heap_setCell w _ _ c (fun e => h.ne e.symm)).trans hc⟩

theorem DevAt.mem {w : World} {p : Nat} {s : DevS} {F : List Nat} (h : DevAt w p s F) : p ∈ F := by
  obtain ⟨pv, sv, ch, _, _, _, rfl, _⟩ := h
  simp [devBlocks]
theorem DevAt.ok {w : World} {p : Nat} {s : DevS} {F : List Nat} (h : DevAt w p s F) : DevOK s := by
  obtain ⟨pv, sv, ch, _, _, _, _, _, h⟩ := h
  exact h
theorem DevAt.inside {w : World} {p : Nat} {s : DevS} {F : List Nat} (h : DevAt w p s F) : p < w.heap.size := by
  obtain ⟨pv, sv, ch, h, _⟩ := h
  exact h.has.inside
/-- All blocks of a device are there. -/
theorem DevAt.lt {w : World} {p : Nat} {s : DevS} {F : List Nat} (h : DevAt w p s F) : ∀ k ∈ F, k < w.heap.size := by
  obtain ⟨pv, sv, ch, hl, hp, hs, rfl, _, _⟩ := h
  intro k hk
  simp only [devBlocks, List.mem_cons, List.mem_append, Option.mem_toList] at hk
  rcases hk with rfl | hk | hk | hk
  · exact hl.has.inside
  · exact (World.ownsRow.lt hp k hk).2
  · exact (World.ownsRow.lt hs k hk).2
  · subst hk
    exact hl.chlt
/-- A device stays where none of its blocks turns. -/
theorem DevAt.kept {w w' : World} {p : Nat} {s : DevS} {F G : List Nat} (h : DevAt w p s F) (hk : Kept G w w') (hd : ∀ k ∈ F, k ∉ G) : DevAt w' p s F := by
  obtain ⟨pv, sv, ch, hl, hp, hs, rfl, hn, ho⟩ := h
  simp only [devBlocks, List.mem_cons, List.mem_append, Option.mem_toList] at hd
  exact ⟨pv, sv, ch, hl.kept hk (hd p (.inl rfl)) (fun c e => hd c (.inr (.inr (.inr e)))), row_kept hp hk (fun g e => hd g (.inr (.inl e))), row_kept hs hk (fun g e => hd g (.inr (.inr (.inl e)))), rfl, hn, ho⟩

/-- The cells of a device. -/
theorem DevAt.cells {w : World} {p : Nat} {s : DevS} {F : List Nat} (h : DevAt w p s F) : w.cell? ⟨p, 0, none⟩ = some (.int .i64 s.most) ∧ w.cell? ⟨p, 1, none⟩ = some (.bool s.on) ∧ w.cell? ⟨p, 2, none⟩ = some (.int .i64 s.fuse) ∧
    ∀ i, w.frozen? ⟨p, i, none⟩ = false := by
  obtain ⟨pv, sv, ch, hl, _⟩ := h
  exact ⟨hl.has.cell 0, hl.has.cell 1, hl.has.cell 2, hl.has.free⟩

/-- The flags turn. -/
theorem DevAt.flags {w : World} {p : Nat} {s : DevS} {F : List Nat} (h : DevAt w p s F) (b : Bool) (n : Int) (hn : -1 ≤ n ∧ n ≤ 9223372036854775807) :
    DevAt ((w.setCell ⟨p, 1, none⟩ (.bool b)).setCell ⟨p, 2, none⟩ (.int .i64 n)) p { s with on := b, fuse := n } F ∧ Kept [p] w ((w.setCell ⟨p, 1, none⟩ (.bool b)).setCell ⟨p, 2, none⟩ (.int .i64 n)) := by
  obtain ⟨pv, sv, ch, hl, hp, hs, rfl, hnd, ho⟩ := h
  have hk : Kept [p] w ((w.setCell ⟨p, 1, none⟩ (.bool b)).setCell ⟨p, 2, none⟩ (.int .i64 n)) := ((Kept.refl _ _).setCell (.inl (by simp)) _).setCell (.inl (by simp)) _
  have h2 := (hl.putOther 1 (by decide) (.bool b)).putOther 2 (by decide) (.int .i64 n)
  simp only [devBlocks, List.nodup_cons, List.mem_append, Option.mem_toList] at hnd
  obtain ⟨hnp, _⟩ := hnd
  refine ⟨⟨pv, sv, ch, h2, row_kept hp hk (fun g e => ?_), row_kept hs hk (fun g e => ?_), rfl, ?_, ⟨ho.most, hn, ho.len, ho.few, ho.pages, ho.synced, ho.line⟩⟩, hk⟩
  · simp only [List.mem_singleton]
    intro e2
    subst e2
    exact hnp (.inl e)
  · simp only [List.mem_singleton]
    intro e2
    subst e2
    exact hnp (.inr (.inl e))
  · simp only [devBlocks, List.nodup_cons, List.mem_append, Option.mem_toList]
    exact ⟨hnp, by assumption⟩

set_option maxHeartbeats 400000 in
theorem on_at (p : Nat) (b : Bool) (w : World) (hc : w.cell? ⟨p, 1, none⟩ = some (.bool b)) : Calls Tryz.prog 97 #[.pointer (some ⟨p, 0, none⟩)] w fun e w' => e = .returned (.bool b) ∧ w = w' := by
  go_enter Tryz.func97, Tryz.ntmps97
  go_wp2
  go_ret
  exact ⟨rfl, rfl⟩

/-- What an operation finds, and leaves. -/
def powS (s : DevS) : DevS := if s.on = true then (if s.fuse = -1 then s else { s with on := decide (0 < s.fuse), fuse := s.fuse - 1 }) else s


set_option maxHeartbeats 400000 in
theorem powered_any (p : Nat) (s : DevS) (F : List Nat) (w : World) (h : DevAt w p s F) :
    Calls Tryz.prog 54 #[.pointer (some ⟨p, 0, none⟩)] w fun e w' => e = .returned (.bool (powS s).on) ∧ DevAt w' p (powS s) F ∧ Kept [p] w w' := by
  obtain ⟨c0, c1, c2, hf⟩ := h.cells
  have f1 := hf 1
  have f2 := hf 2
  have hfu := h.ok.fuse
  by_cases hon : s.on = true
  · by_cases hfz : s.fuse = -1
    · have hx : powS s = s := by unfold powS; rw [if_pos hon, if_pos hfz]
      have HX := Lib.hid hx
      have H := Lib.hid h
      rw [hon] at c1
      rw [hfz] at c2
      have HON := Lib.hid hon
      clear hf hx h hfz hfu hon
      go_enter Tryz.func54, Tryz.ntmps54
      go_wp2_with (go_at_call 97; refine (on_at _ _ _ c1).mono ?_; rintro e w' ⟨rfl, rfl⟩)
      go_ret
      rw [HX.out]
      exact ⟨ret_bool HON.out.symm, H.out, Kept.refl _ _⟩
    · have hx : powS s = { s with on := decide (0 < s.fuse), fuse := s.fuse - 1 } := by unfold powS; rw [if_pos hon, if_neg hfz]
      have HX := Lib.hid hx
      have H := Lib.hid (h.flags (decide (0 < s.fuse)) (s.fuse - 1) (by omega))
      have hne : (s.fuse != -1) = true := by simpa using hfz
      rw [hon] at c1
      generalize s.fuse = f at *
      clear hf hx h hon
      go_enter Tryz.func54, Tryz.ntmps54
      go_wp2_with (go_at_call 97; refine (on_at _ _ _ c1).mono ?_; rintro e w' ⟨rfl, rfl⟩)
      go_ret
      rw [HX.out]
      exact ⟨rfl, H.out⟩
  · have hx : powS s = s := by unfold powS; rw [if_neg hon]
    have hon' : s.on = false := by simpa using hon
    have HX := Lib.hid hx
    have H := Lib.hid h
    rw [hon'] at c1
    have HON := Lib.hid hon'
    clear hf hx h hon hon'
    go_enter Tryz.func54, Tryz.ntmps54
    go_wp2_with (go_at_call 97; refine (on_at _ _ _ c1).mono ?_; rintro e w' ⟨rfl, rfl⟩)
    go_ret
    rw [HX.out]
    exact ⟨ret_bool HON.out.symm, H.out, Kept.refl _ _⟩
theorem drow_form {w : World} {base : Nat} {e : TypeId} {v : Value} {n : Nat} {xs : List Value} (h : w.ownsRow base e 1 v n xs) : ∃ A c, v = .slice A n c ∧ n ≤ 9223372036854775807 ∧ ∀ (j : Nat) (u : Value), xs[j]? = some u → ∃ g, A = some ⟨g, 0, none⟩ ∧ w.cell? ⟨g, j, none⟩ = some u := by
  rcases h.2 with ⟨rfl, rfl⟩ | ⟨g, cap, cur, rfl, _, _, hn, hm, _⟩
  · exact ⟨none, 0, rfl, by omega, fun j u hu => by
      have h1 := h.1
      simp at h1
      subst h1
      simp at hu⟩
  · refine ⟨some ⟨g, 0, none⟩, cap, rfl, by unfold maxLen at hm; omega, fun j u hu => ⟨g, rfl, ?_⟩⟩
    have := World.ownsRow.cells h rfl j u hu
    rwa [Go.WideShapes.add_plain, Nat.zero_add] at this

/-- The pages of a device, as they are read. -/
theorem DevAt.pages {w : World} {p : Nat} {s : DevS} {F : List Nat} (h : DevAt w p s F) : ∃ A c, w.cell? ⟨p, 3, none⟩ = some (.slice A s.pages.length c) ∧
    ∀ (j : Nat) (x : ByteArray), s.pages[j]? = some x → ∃ g, A = some ⟨g, 0, none⟩ ∧ w.cell? ⟨g, j, none⟩ = some (.string x) := by
  obtain ⟨pv, sv, ch, hl, hp, _⟩ := h
  obtain ⟨A, c, rfl, _, hc⟩ := drow_form hp
  exact ⟨A, c, hl.has.cell 3, fun j x hx => hc j _ (by rw [List.getElem?_map, hx]; rfl)⟩




set_option maxHeartbeats 400000 in
theorem dvlen_any (p : Nat) (s : DevS) (F : List Nat) (w : World) (h : DevAt w p s F) : Calls Tryz.prog 60 #[.pointer (some ⟨p, 0, none⟩)] w fun e w' => e = .returned (.int .i64 s.pages.length) ∧ w = w' := by
  obtain ⟨A, c, c3, _⟩ := h.pages
  clear h
  go_enter Tryz.func60, Tryz.ntmps60
  go_wp2
  go_ret
  exact ⟨rfl, rfl⟩




end Go.Proofs.YtpoocbkligjgbaaGreatDoor

namespace Go.Proofs.YtpoocbkligjgbaaGreatDoor
open Go.RowKit

theorem row_base {w : World} {base base' : Nat} {e : TypeId} {v : Value} {n : Nat} {xs : List Value} (h : w.ownsRow base e 1 v n xs) (hb : ∀ g, v.ownBlock = some g → base' ≤ g) : w.ownsRow base' e 1 v n xs := by
  refine ⟨h.1, ?_⟩
  rcases h.2 with hn | ⟨g, cap, cur, rfl, _, rest⟩
  · exact .inl hn
  · exact .inr ⟨g, cap, cur, rfl, hb g rfl, rest⟩

theorem append_fresh {ops : Array Oper} {rest : List Oper} {o : Oper} {a : Act} {Q : Exit → Act → World → Prop} (hgd : o.guard = none) (s x : Operand) (t e : TypeId) (z : Value) (nb : Nat) (ht : Tryz.prog.underlying t = some (.slice e))
    (hinfo : (Tryz.prog.info? e).map (fun i => (i.zero, i.size, i.bytes)) = some (some z, 1, nb)) (hzs : z.cells.size = 1) (hnb : nb ≤ 16)
    (ho : o.op = .call { callee := .builtin .append, args := #[s, x], argTypes := #[t, t] }) (w : World) (v : Value) (n : Nat) (xs : List Value) (hs : a.eval s = v) (hown : w.ownsRow 0 e 1 v n xs) (u : Value) (hu : u.oneCell' = true)
    (B : Nat) (hB : B = w.heap.size) (hx : a.eval x = .slice (some ⟨B, 0, none⟩) 1 1) (hlen : n ≤ 1000000)
    (h : ∀ v' w', w'.ownsRow 0 e 1 v' (n + 1) (xs ++ [u]) → (v'.ownBlock = v.ownBlock ∧ v.ownBlock ≠ none ∨ ∃ k, v'.ownBlock = some k ∧ w.heap.size < k) → w.grownBy w' v.ownBlock → wpList Tryz.prog ops Q rest (a.put o.dst v') w') :
    wpList Tryz.prog ops Q (o :: rest) a (w.alloc (.cells #[u] e)) := by
  subst hB
  obtain ⟨i0, hi, hz0, hz1, hz2⟩ := info_parts hinfo
  have hmul : (n + 1) * nb ≤ 17000000 := by
    have := Nat.mul_le_mul (show n + 1 ≤ 1000001 by omega) hnb
    omega
  have hra := World.ownsRow.alloc hown (.cells #[u] e)
  have hgr : ∀ (row : Option Nat) (w' : World), (w.alloc (.cells #[u] e)).grownBy w' row → w.grownBy w' row := fun row w' h2 => grownBy_trans (World.grownBy_alloc w _ row) h2
  have h1 : ∀ y ∈ [u], y.oneCell' = true := by intro y hy; simp at hy; subst hy; exact hu
  rcases hown.2 with ⟨rfl, rfl⟩ | ⟨g, cap, cur, rfl, _, hg, hnc, hcm, hcs, htake⟩
  · have hxs : xs = [] := List.eq_nil_of_length_eq_zero (by simpa using hown.1)
    subst hxs
    refine wpList_append_own _ hgd s x t ho (w.heap.size + 1) e i0 z 1 nb ht hi hz0 hz1 hz2 hzs (by decide) _ 0 [] hs (World.ownsRow_nil _ _ _ _) ⟨w.heap.size, 0, none⟩ 1 1 [u] hx rfl (cell_one_new _ _ _) h1 (by unfold maxLen; omega) (by omega) (by simp) ?_
    intro v' w' h2 h3 h4
    refine h v' w' (row_base h2 (fun _ _ => Nat.zero_le _)) (.inr ?_) (hgr _ _ h3)
    rcases h2.2 with ⟨_, h5⟩ | ⟨g, cap, cur, rfl, hb, _⟩
    · omega
    · exact ⟨g, rfl, by omega⟩
  · by_cases hroom : n + 1 ≤ cap
    · refine wpList_append_fits _ hgd s x t ho 0 e i0 1 ht hi hz1 g n cap xs hs hra ⟨w.heap.size, 0, none⟩ 1 1 [u] hx rfl (cell_one_new _ _ _) h1 hroom ?_
      intro w' h2 h3
      exact h _ w' h2 (.inl ⟨rfl, by simp [Value.ownBlock]⟩) (hgr _ _ h3)
    · refine wpList_plain hgd fun K hK => ?_
      have holds := hra.cells (g := g) rfl
      have hl1 : xs.length = n * i0.size := by rw [hz1]; exact hown.1
      have hr := run_append_grow (P := Tryz.prog) (w := w.alloc (.cells #[u] e)) t o.type e i0 z ht hi hz0 ⟨g, 0, none⟩ n cap xs hl1 holds ⟨w.heap.size, 0, none⟩ 1 1 [u] (by simp [hz1]) (cell_one_new _ _ _) (by omega) (by omega) (growslice_fits (by omega) (by rw [hz2]; omega))
      unfold Oper.wp execOp
      simp only [ho, resolve, invoke, builtin, Sem.run_bind, Sem.run_pure, Result.andThen_ok, List.map_toArray, List.map_cons, List.map_nil, hs, hx, hr]
      refine hK _ _ (h _ _ ?_ (.inr ⟨_, rfl, by simp⟩) (hgr _ _ ?_))
      · have hge := grownCap_ge (w.alloc (.cells #[u] e)) (n + 1) cap e
        have hcm2 := grownCap_le_maxLen (w.alloc (.cells #[u] e)) (n + 1) cap e (by unfold maxLen; omega)
        generalize grownCap (w.alloc (.cells #[u] e)) (n + 1) cap e = C at *
        have hlx : xs.length = n := by simpa using hown.1
        refine ⟨by simp [hlx], .inr ⟨_, _, _, rfl, Nat.zero_le _, heap_alloc_new (w.alloc (.cells #[u] e)).drew _, hge, hcm2, ?_, ?_⟩⟩
        · simp only [Array.size_append, List.size_toArray, size_zeroCells, hzs, hlx, List.length_singleton]
          omega
        · simp only [Array.toList_append, List.append_assoc]
          rw [← List.append_assoc, List.take_append_of_le_length (by simp [hlx]), List.take_of_length_le (by simp [hlx])]
      · exact ⟨rfl, rfl, rfl, by simp, fun k hk _ => Below.heap_alloc (w.alloc (.cells #[u] e)).drew _ k hk⟩
end Go.Proofs.YtpoocbkligjgbaaGreatDoor

namespace Go.Proofs.YtpoocbkligjgbaaGreatDoor
open Go.RowKit Go.Lib

/-- The memory of a device: its lists pv and sv, its line's channel ch. -/
structure DevMem (w : World) (p : Nat) (s : DevS) (pv sv : Value) (ch : Option Nat) : Prop where
  line : LineAt w p 181 (devCells s pv sv ch) 5 s.line s.cap ch
  rowp : w.ownsRow 0 9 1 pv s.pages.length (s.pages.map Value.string)
  rows : w.ownsRow 0 9 1 sv s.synced.length (s.synced.map Value.string)
  nodup : (devBlocks p pv sv ch).Nodup

theorem DevAt.mem_ {w : World} {p : Nat} {s : DevS} {F : List Nat} (h : DevAt w p s F) : ∃ pv sv ch, DevMem w p s pv sv ch ∧ F = devBlocks p pv sv ch := by
  obtain ⟨pv, sv, ch, hl, hp, hs, rfl, hn, _⟩ := h
  exact ⟨pv, sv, ch, ⟨hl, hp, hs, hn⟩, rfl⟩
theorem DevMem.at_ {w : World} {p : Nat} {s : DevS} {pv sv : Value} {ch : Option Nat} (h : DevMem w p s pv sv ch) (ho : DevOK s) : DevAt w p s (devBlocks p pv sv ch) :=
  ⟨pv, sv, ch, h.line, h.rowp, h.rows, rfl, h.nodup, ho⟩

theorem mem_devBlocks {p k : Nat} {pv sv : Value} {ch : Option Nat} : k ∈ devBlocks p pv sv ch ↔ k = p ∨ pv.ownBlock = some k ∨ sv.ownBlock = some k ∨ ch = some k := by
  simp [devBlocks]
theorem nodup_devBlocks {p : Nat} {pv sv : Value} {ch : Option Nat} : (devBlocks p pv sv ch).Nodup ↔ (∀ k, pv.ownBlock = some k → k ≠ p ∧ sv.ownBlock ≠ some k ∧ ch ≠ some k) ∧ (∀ k, sv.ownBlock = some k → k ≠ p ∧ ch ≠ some k) ∧ ch ≠ some p := by
  unfold devBlocks
  rcases pv.ownBlock with _ | a <;> rcases sv.ownBlock with _ | b <;> rcases ch with _ | c <;> simp <;> omega

theorem DevMem.lt {w : World} {p : Nat} {s : DevS} {pv sv : Value} {ch : Option Nat} (h : DevMem w p s pv sv ch) : ∀ k ∈ devBlocks p pv sv ch, k < w.heap.size := by
  intro k hk
  rcases mem_devBlocks.1 hk with rfl | hk | hk | hk
  · exact h.line.has.inside
  · exact (World.ownsRow.lt h.rowp k hk).2
  · exact (World.ownsRow.lt h.rows k hk).2
  · subst hk
    exact h.line.chlt

theorem DevMem.newPages {w w1 : World} {p : Nat} {s : DevS} {pv sv v1 : Value} {ch : Option Nat} (h : DevMem w p s pv sv ch) (xs : List ByteArray) (h1 : w1.ownsRow 0 9 1 v1 xs.length (xs.map Value.string))
    (h2 : v1.ownBlock = pv.ownBlock ∧ pv.ownBlock ≠ none ∨ ∃ k, v1.ownBlock = some k ∧ w.heap.size < k) (h3 : w.grownBy w1 pv.ownBlock) :
    DevMem (w1.setCell ⟨p, 3, none⟩ v1) p { s with pages := xs } v1 sv ch ∧ Goes (devBlocks p pv sv ch) w (devBlocks p v1 sv ch) (w1.setCell ⟨p, 3, none⟩ v1) := by
  obtain ⟨n1, n2, n3⟩ := nodup_devBlocks.1 h.nodup
  have hlt := h.lt
  have hplt : p < w.heap.size := hlt p (mem_devBlocks.2 (.inl rfl))
  have hk1 : Kept (devBlocks p pv sv ch) w w1 := Kept.of_grown h3 (fun k e => mem_devBlocks.2 (.inr (.inl e)))
  have hkp : Kept pv.ownBlock.toList w w1 := Kept.of_grown h3 (fun k e => by simpa using e)
  have hl1 : LineAt w1 p 181 (devCells s pv sv ch) 5 s.line s.cap ch := h.line.kept hkp (by simp; intro e; exact (n1 p e).1 rfl) (fun c e => by simp; intro e2; exact (n1 c e2).2.2 e)
  have hs1 := row_kept h.rows hkp (fun g e => by simp; intro e2; exact (n1 g e2).2.1 e)
  have hkq : Kept [p] w1 (w1.setCell ⟨p, 3, none⟩ v1) := (Kept.refl _ _).setCell (.inl (by simp)) _
  have hv1 : ∀ k, v1.ownBlock = some k → k ≠ p ∧ sv.ownBlock ≠ some k ∧ ch ≠ some k := by
    intro k hk
    rcases h2 with ⟨e, _⟩ | ⟨k2, e, hlt2⟩
    · exact n1 k (e ▸ hk)
    · rw [e] at hk
      obtain rfl := Option.some.inj hk
      refine ⟨by omega, fun e2 => ?_, fun e2 => ?_⟩
      · have := hlt k2 (mem_devBlocks.2 (.inr (.inr (.inl e2))))
        omega
      · have := hlt k2 (mem_devBlocks.2 (.inr (.inr (.inr e2))))
        omega
  refine ⟨⟨hl1.putOther 3 (by decide) v1, row_kept h1 hkq (fun g e => by simpa using (hv1 g e).1), row_kept hs1 hkq (fun g e => by simpa using (n2 g e).1), nodup_devBlocks.2 ⟨hv1, n2, n3⟩⟩, hk1.then_ hkq (fun i hi => .inl (mem_devBlocks.2 (.inl (by simpa using hi)))), fun k hk => ?_⟩
  rcases mem_devBlocks.1 hk with rfl | hk | hk | hk
  · exact .inl (mem_devBlocks.2 (.inl rfl))
  · rcases h2 with ⟨e, _⟩ | ⟨k2, e, hlt2⟩
    · exact .inl (mem_devBlocks.2 (.inr (.inl (e ▸ hk))))
    · rw [e] at hk
      obtain rfl := Option.some.inj hk
      exact .inr (by omega)
  · exact .inl (mem_devBlocks.2 (.inr (.inr (.inl hk))))
  · exact .inl (mem_devBlocks.2 (.inr (.inr (.inr hk))))

theorem DevMem.newSynced {w w1 : World} {p : Nat} {s : DevS} {pv sv v1 : Value} {ch : Option Nat} (h : DevMem w p s pv sv ch) (xs : List ByteArray) (h1 : w1.ownsRow 0 9 1 v1 xs.length (xs.map Value.string))
    (h2 : v1.ownBlock = sv.ownBlock ∧ sv.ownBlock ≠ none ∨ ∃ k, v1.ownBlock = some k ∧ w.heap.size < k) (h3 : w.grownBy w1 sv.ownBlock) :
    DevMem (w1.setCell ⟨p, 4, none⟩ v1) p { s with synced := xs } pv v1 ch ∧ Goes (devBlocks p pv sv ch) w (devBlocks p pv v1 ch) (w1.setCell ⟨p, 4, none⟩ v1) := by
  obtain ⟨n1, n2, n3⟩ := nodup_devBlocks.1 h.nodup
  have hlt := h.lt
  have hplt : p < w.heap.size := hlt p (mem_devBlocks.2 (.inl rfl))
  have hk1 : Kept (devBlocks p pv sv ch) w w1 := Kept.of_grown h3 (fun k e => mem_devBlocks.2 (.inr (.inr (.inl e))))
  have hkp : Kept sv.ownBlock.toList w w1 := Kept.of_grown h3 (fun k e => by simpa using e)
  have hl1 : LineAt w1 p 181 (devCells s pv sv ch) 5 s.line s.cap ch := h.line.kept hkp (by simp; intro e; exact (n2 p e).1 rfl) (fun c e => by simp; intro e2; exact (n2 c e2).2 e)
  have hp1 := row_kept h.rowp hkp (fun g e => by simp; exact (n1 g e).2.1)
  have hkq : Kept [p] w1 (w1.setCell ⟨p, 4, none⟩ v1) := (Kept.refl _ _).setCell (.inl (by simp)) _
  have hv1 : ∀ k, v1.ownBlock = some k → k ≠ p ∧ ch ≠ some k := by
    intro k hk
    rcases h2 with ⟨e, _⟩ | ⟨k2, e, hlt2⟩
    · exact n2 k (e ▸ hk)
    · rw [e] at hk
      obtain rfl := Option.some.inj hk
      refine ⟨by omega, fun e2 => ?_⟩
      have := hlt k2 (mem_devBlocks.2 (.inr (.inr (.inr e2))))
      omega
  have hv2 : ∀ k, pv.ownBlock = some k → k ≠ p ∧ v1.ownBlock ≠ some k ∧ ch ≠ some k := by
    intro k hk
    refine ⟨(n1 k hk).1, fun e2 => ?_, (n1 k hk).2.2⟩
    rcases h2 with ⟨e, _⟩ | ⟨k2, e, hlt2⟩
    · exact (n1 k hk).2.1 (e ▸ e2)
    · rw [e] at e2
      obtain rfl := Option.some.inj e2
      have := hlt k2 (mem_devBlocks.2 (.inr (.inl hk)))
      omega
  refine ⟨⟨hl1.putOther 4 (by decide) v1, row_kept hp1 hkq (fun g e => by simpa using (n1 g e).1), row_kept h1 hkq (fun g e => by simpa using (hv1 g e).1), nodup_devBlocks.2 ⟨hv2, hv1, n3⟩⟩, hk1.then_ hkq (fun i hi => .inl (mem_devBlocks.2 (.inl (by simpa using hi)))), fun k hk => ?_⟩
  rcases mem_devBlocks.1 hk with rfl | hk | hk | hk
  · exact .inl (mem_devBlocks.2 (.inl rfl))
  · exact .inl (mem_devBlocks.2 (.inr (.inl hk)))
  · rcases h2 with ⟨e, _⟩ | ⟨k2, e, hlt2⟩
    · exact .inl (mem_devBlocks.2 (.inr (.inr (.inl (e ▸ hk)))))
    · rw [e] at hk
      obtain rfl := Option.some.inj hk
      exact .inr (by omega)
  · exact .inl (mem_devBlocks.2 (.inr (.inr (.inr hk))))

/-- A device as New makes it. -/
def newS (n : Int) : DevS := { most := n, on := true, fuse := -1, pages := [], synced := [], line := [], cap := 0 }

set_option maxHeartbeats 400000 in
theorem new_ok (n : Int) (w : World) (h1 : 1 ≤ n) (h2 : n ≤ 3000) :
    Calls Tryz.prog 78 #[.int .i64 n] w fun e w' => e = .returned (.tuple #[.pointer (some ⟨w.heap.size, 0, none⟩), .int .i64 0]) ∧ DevAt w' w.heap.size (newS n) [w.heap.size] ∧ Below w.heap.size w w' := by
  have hb : decide (n < 1) = false := by simpa using h1
  have hD : DevAt (w.alloc (.cells #[.int .i64 n, .bool true, .int .i64 (-1), .slice none 0 0, .slice none 0 0, .chan none] 181)) w.heap.size (newS n) [w.heap.size] := by
    refine ⟨.slice none 0 0, .slice none 0 0, none, ⟨Has.made _ _ _, rfl, fun _ => ⟨rfl, rfl⟩, (fun c e => by cases e), by simp [newS], (fun c e => by cases e)⟩, World.ownsRow_nil _ _ _ _, World.ownsRow_nil _ _ _ _, rfl, by simp, ⟨⟨by simp [newS]; omega, by simp [newS]; omega⟩, by simp [newS], rfl, by simp [newS], by simp [newS], by simp [newS], by simp [newS]⟩⟩
  have HD := Lib.hid hD
  clear hD
  go_enter Tryz.func78, Tryz.ntmps78
  go_wp2
  go_ret2
  exact ⟨rfl, HD.out, (Below.refl _ _).alloc (Nat.le_refl _) _⟩
end Go.Proofs.YtpoocbkligjgbaaGreatDoor
