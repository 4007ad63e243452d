/-
  What a pager knows of its pages: a map in memory, as a function of the number.
-/
import Derived.Test.YtpoocbkligjgbaaGreatDoorMg1
import Derived.Maps.OwnOps
import Derived.Maps.RangeWalk
import Derived.Maps.Views
namespace Go.Proofs.YtpoocbkligjgbaaGreatDoor
open Go.RowKit Go.Maps

/-- What became of a page: its fate, and its content. -/
structure Chg where
  fate : Int
  kind : Int
  next : Int
  body : ByteArray

def noChg : Chg := ⟨0, 0, 0, ⟨#[]⟩⟩
def chgV (c : Chg) : Value := .agg #[.int .i64 c.fate, .int .i64 c.kind, .int .i64 c.next, .string c.body]
def chgD (c : Chg) : DataW Unit := .agg [.lit (.int .i64 c.fate), .lit (.int .i64 c.kind), .lit (.int .i64 c.next), .lit (.string c.body.data.toList)]
/-- How a change reads in a map. -/
def chgR (v : Value) : Option (DataW Unit × List MemPlace) :=
  match v with
  | .agg cs => match cs.toList with
    | [.int .i64 f, .int .i64 k, .int .i64 n, .string s] => some (chgD ⟨f, k, n, s⟩, [])
    | _ => none
  | _ => none
theorem chgR_mk (c : Chg) : chgR (chgV c) = some (chgD c, []) := rfl
theorem chgR_inv {v : Value} {y : DataW Unit × List MemPlace} (h : chgR v = some y) : ∃ c, v = chgV c ∧ y = (chgD c, []) := by
  unfold chgR at h
  split at h
  · rename_i cs
    split at h
    · rename_i f k n s he
      refine ⟨⟨f, k, n, s⟩, ?_, by simpa using h.symm⟩
      unfold chgV
      have : cs = #[.int .i64 f, .int .i64 k, .int .i64 n, .string s] := by
        apply Array.toList_inj.1
        rw [he]
      rw [this]
    · cases h
  · cases h
theorem chgD_inj {c d : Chg} (h : chgD c = chgD d) : c = d := by
  obtain ⟨f, k, n, s⟩ := c
  obtain ⟨f', k', n', s'⟩ := d
  simp [chgD] at h
  obtain ⟨rfl, rfl, rfl, hs⟩ := h
  have : s = s' := by
    cases s; cases s'
    simp at hs
    rw [hs]
  rw [this]

theorem intKey : Keyed Tryz.prog 3 := int_keyed Tryz.underlying3
theorem zeroChg (w : World) : (zeroValue 160).run Tryz.prog w = .ok (chgV noChg) w := by kernel_rfl
theorem chg_fate (f k n : Int) (s : ByteArray) (w : World) : (Instr.field 160 (.agg #[.int .i64 f, .int .i64 k, .int .i64 n, .string s]) 0).run Tryz.prog w = .ok (.int .i64 f) w := by kernel_rfl
theorem wf_of_isInt {x : Int} (h : IsInt x) : (Lit.int .i64 x).wf = true := by
  have h1 : IntKind.i64.min = -9223372036854775808 := by decide +kernel
  have h2 : IntKind.i64.max = 9223372036854775807 := by decide +kernel
  simp only [Lit.wf, Bool.and_eq_true, decide_eq_true_eq, h1, h2]
  exact h
theorem keyInt {x : Int} (h : IsInt x) : keyOf Tryz.prog 3 (.int .i64 x) = some (.int .i64 x) := keyOf_int_mk Tryz.underlying3 (wf_of_isInt h)
theorem lit_ne {x y : Int} (h : x ≠ y) : (Lit.int .i64 x) ≠ .int .i64 y := fun e => h (by cases e; rfl)

/-- At block b of w stands a map of at most n changes: H is what it knows of each number. -/
def HereIs (w : World) (b n : Nat) (H : Int → Chg) : Prop :=
  ∃ D : DataW Unit, w.ownsMap Tryz.prog 3 chgR b n D ∧ ∀ x : Int, D.atKey (.int .i64 x) (chgD noChg) = chgD (H x)

def upd (H : Int → Chg) (x : Int) (c : Chg) : Int → Chg := fun y => if y = x then c else H y
theorem upd_same (H : Int → Chg) (x : Int) (c : Chg) : upd H x c x = c := if_pos rfl
theorem upd_other (H : Int → Chg) {x y : Int} (c : Chg) (h : y ≠ x) : upd H x c y = H y := if_neg h

section
variable {w w' : World} {b n : Nat} {H : Int → Chg} {G : List Nat}
theorem HereIs.made (w : World) : HereIs (w.alloc (.map #[] 0)) w.heap.size 0 (fun _ => noChg) := ⟨.map [], World.ownsMap_made _ _ _ _, fun _ => rfl⟩
theorem HereIs.lt (h : HereIs w b n H) : b < w.heap.size := by
  obtain ⟨D, ho, _⟩ := h
  exact ho.lt
theorem HereIs.kept (h : HereIs w b n H) (hk : Kept G w w') (hn : b ∉ G) : HereIs w' b n H := by
  obtain ⟨D, ⟨es, clock, hb, rest⟩, hv⟩ := h
  exact ⟨D, ⟨es, clock, chan_kept hb hk hn, rest⟩, hv⟩
theorem HereIs.mono (h : HereIs w b n H) {n' : Nat} (hn : n ≤ n') : HereIs w b n' H := by
  obtain ⟨D, ho, hv⟩ := h
  exact ⟨D, ho.mono hn, hv⟩
theorem HereIs.look (h : HereIs w b n H) {x : Int} (hx : IsInt x) : (Instr.lookup 105 (.map (some b)) (.int .i64 x) false).run Tryz.prog w = .ok (chgV (H x)) w := by
  obtain ⟨D, ho, hv⟩ := h
  obtain ⟨v, ps, hrun, hR⟩ := ho.lookup intKey Tryz.underlying105 (zeroChg w) (chgR_mk noChg) (keyInt hx)
  rw [hv x] at hR
  obtain ⟨c, rfl, hc⟩ := chgR_inv hR
  simp at hc
  rw [chgD_inj hc.1]
  exact hrun
theorem HereIs.put (h : HereIs w b n H) (hn : n < 1000000) {x : Int} (hx : IsInt x) (c : Chg) :
    ∃ w', (Instr.mapUpdate 105 (.map (some b)) (.int .i64 x) (chgV c)).run Tryz.prog w = .ok () w' ∧ HereIs w' b (n + 1) (upd H x c) ∧ Kept [b] w w' := by
  obtain ⟨D, ho, hv⟩ := h
  obtain ⟨w', hrun, ho', hg⟩ := ho.update intKey Tryz.underlying105 (by unfold maxLen; omega) (keyInt hx) (chgR_mk c)
  obtain ⟨es, hD, _⟩ := ho.entries intKey
  refine ⟨w', hrun, ⟨_, ho', fun y => ?_⟩, Kept.of_grown hg (fun k e => by cases e; simp)⟩
  by_cases e : y = x
  · subst e
    rw [atKey_put_same ⟨es, hD⟩ (show WideAt.IsKeyLit (Lit.int .i64 y) from trivial), upd_same]
  · rw [atKey_put_other (lit_ne e), hv y, upd_other H c e]

end

section
variable {P : Program} (w : World) {ops : Array Oper} {rest : List Oper} {o : Oper} {a : Act} {Q : Exit → Act → World → Prop} {b n : Nat} {H : Int → Chg}
/-- 'here[id] = c', for the walk. -/
theorem wpList_put (hg : o.guard = none) (m x v : Operand) (hop : o.op = Op.mapUpdate 105 m x v) (hm : a.eval m = .map (some b)) (h : HereIs w b n H) (hn : n < 1000000) (k : Int) (hx : a.eval x = .int .i64 k) (hk : IsInt k) (c : Chg) (hv : a.eval v = chgV c)
    (hK : ∀ w', HereIs w' b (n + 1) (upd H k c) → Kept [b] w w' → wpList Tryz.prog ops Q rest (a.put o.dst undef) w') : wpList Tryz.prog ops Q (o :: rest) a w := by
  refine wpList_plain hg fun K' hK' => ?_
  obtain ⟨w', hrun, r1, r2⟩ := h.put hn hk c
  unfold Oper.wp
  simp [execOp, hop, hm, hx, hv, hrun, Result.andThen]
  exact hK' _ _ (hK w' r1 r2)
end
end Go.Proofs.YtpoocbkligjgbaaGreatDoor
