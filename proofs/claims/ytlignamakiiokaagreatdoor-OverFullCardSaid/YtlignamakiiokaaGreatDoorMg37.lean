/-
  A chain of pages, walked: over's right and walk.
-/
import Derived.Test.YtlignamakiiokaaGreatDoorMg34
import Derived.Test.YtlignamakiiokaaGreatDoorMg35
import Derived.Test.YtlignamakiiokaaGreatDoorMg36
import Derived.Test.YtlignamakiiokaaGreatDoorShelf3
namespace Go.Proofs.YtlignamakiiokaaGreatDoor
open Go.RowKit Go.Sort Go.Lib

/-- Whether a page may stand in a chain where so many bytes are left. -/
def rightP (k n : Int) (z : Nat) (left : Int) : Prop := k = 4 ∧ (z : Int) = min left 240 ∧ (left ≤ 240 ↔ n = 0)
instance (k n : Int) (z : Nat) (left : Int) : Decidable (rightP k n z left) := by unfold rightP; exact inferInstance

set_option maxRecDepth 100000 in
set_option maxHeartbeats 1000000 in
theorem right_any (k n : Int) (t : ByteArray) (left : Int) (w : World) : Calls Tryz.prog 120 #[.agg #[.int .i64 k, .int .i64 n, .string t], .int .i64 left] w fun e w' => e = .returned (.bool (decide (rightP k n t.size left))) ∧ Below w.heap.size w w' := by
  have hb := alloc_below (w := w) (.cells #[.int .i64 k, .int .i64 n, .string t] 53)
  have hx := Has.made w 53 #[.int .i64 k, .int .i64 n, .string t]
  have d0 := hx.cell 0
  have d1 := hx.cell 1
  have d2 := hx.cell 2
  simp at d0 d1 d2
  have HB := Lib.hid hb
  clear hb hx
  go_enter Tryz.func120, Tryz.ntmps120
  by_cases h1 : k = 4
  · by_cases h2 : (t.size : Int) = min left 240
    · subst h1
      have e2 : ((t.size : Int) == min left 240) = true := by simpa using h2
      go_wp2_with fail
      go_ret
      refine ⟨ret_bool ?_, HB.out⟩
      unfold rightP
      simp [h2]
      rfl
    · subst h1
      have e2 : ((t.size : Int) == min left 240) = false := by simpa using h2
      go_wp2_with fail
      go_ret
      refine ⟨ret_bool ?_, HB.out⟩
      unfold rightP
      simp [h2]
  · have e1 : (k == 4) = false := by simpa using h1
    go_wp2_with fail
    go_ret
    refine ⟨ret_bool ?_, HB.out⟩
    unfold rightP
    simp [h1]

/-- Where a walk along a chain stands: the error, the next page, the pages, the bytes. -/
structure WkS where
  e : Int
  id : Int
  ids : List Int
  bs : List UInt8
def wkStep (s : PgS) (left : Int) (st : WkS) : WkS :=
  if st.e ≠ 0 then st
  else if rdE s st.id ≠ 0 then { st with e := rdE s st.id }
  else if rightP (s.H st.id).kind (s.H st.id).next (s.H st.id).body.size left then ⟨0, (s.H st.id).next, st.ids ++ [st.id], st.bs ++ (s.H st.id).body.data.toList⟩
  else { st with e := 15 }
def wkTo (s : PgS) (first size : Int) : Nat → WkS
  | 0 => ⟨0, first, [], []⟩
  | j + 1 => wkStep s (size - 240 * j) (wkTo s first size j)
theorem wkTo_stuck {s : PgS} {first size : Int} {j : Nat} (h : (wkTo s first size j).e ≠ 0) : ∀ i, j ≤ i → wkTo s first size i = wkTo s first size j
  | 0, hi => by obtain rfl : j = 0 := by omega
                rfl
  | i + 1, hi => by
    rcases Nat.lt_or_ge i j with c | c
    · obtain rfl : j = i + 1 := by omega
      rfl
    · have ih := wkTo_stuck h i c
      show wkStep s _ (wkTo s first size i) = _
      rw [ih]
      unfold wkStep
      rw [if_pos h]
theorem wkTo_lens (s : PgS) (hy : Yg s) (first size : Int) : ∀ j, (wkTo s first size j).ids.length ≤ j ∧ (wkTo s first size j).bs.length ≤ 240 * j
  | 0 => ⟨Nat.le_refl _, Nat.le_refl _⟩
  | j + 1 => by
    obtain ⟨h1, h2⟩ := wkTo_lens s hy first size j
    show (wkStep s _ (wkTo s first size j)).ids.length ≤ _ ∧ (wkStep s _ (wkTo s first size j)).bs.length ≤ _
    generalize wkTo s first size j = st at *
    unfold wkStep
    split
    · omega
    · split
      · exact ⟨by show st.ids.length ≤ _; omega, by show st.bs.length ≤ _; omega⟩
      · split
        · rename_i _ hr _
          have hb : (s.H st.id).body.size ≤ 240 := by
            rcases hy.rd st.id with ⟨_, h3, _⟩ | ⟨h3, _⟩ | ⟨h3, _⟩
            · exact (hy.body h3).1
            · rw [h3] at hr; simp at hr
            · rw [h3] at hr; simp at hr
          have hb2 : (s.H st.id).body.data.toList.length = (s.H st.id).body.size := by simp
          refine ⟨by simp; omega, ?_⟩
          show (st.bs ++ _).length ≤ _
          rw [List.length_append, hb2]
          omega
        · exact ⟨by show st.ids.length ≤ _; omega, by show st.bs.length ≤ _; omega⟩
def wkE (s : PgS) (first size : Int) : Int := if size < 1 ∨ 2000 < size then 1 else (wkTo s first size (nP size.toNat)).e
def wkL (s : PgS) (first size : Int) : List Int := if wkE s first size = 0 then (wkTo s first size (nP size.toNat)).ids else []
def wkB (s : PgS) (first size : Int) : ByteArray := if wkE s first size = 0 then ⟨(wkTo s first size (nP size.toNat)).bs.toArray⟩ else ⟨#[]⟩

/-- A list of numbers of the call's own. -/
def NInts (w : World) (base : Nat) (v : Value) (l : List Int) : Prop := w.ownsRow base 3 1 v l.length (l.map (Value.int .i64))
theorem Tryz.infoIntO : (Tryz.prog.info? 3).map (fun i => (i.zero, i.size, i.bytes)) = some (some (.int .i64 0), 1, 8) := by kernel_rfl
theorem append_num {ops : Array Oper} {rest : List Oper} {o : Oper} {a : Act} {Q : Exit → Act → World → Prop} (hgd : o.guard = none) (s x : Operand)
    (ho : o.op = .call { callee := .builtin .append, args := #[s, x], argTypes := #[69, 69] })
    (base : Nat) (wr : World) (bv : Value) (m : List Int) (hs : a.eval s = bv) (hrow : NInts wr base bv m) (y : Int) (hx : a.eval x = .slice (some ⟨wr.heap.size, 0, none⟩) 1 1)
    (hlen : m.length ≤ 1000000) (hbase : base ≤ wr.heap.size)
    (h : ∀ v' w', NInts w' base v' (m ++ [y]) → Below base wr w' → (wr.alloc (.cells #[.int .i64 y] 3)).grownBy w' bv.ownBlock → wpList Tryz.prog ops Q rest (a.put o.dst v') w') : wpList Tryz.prog ops Q (o :: rest) a (wr.alloc (.cells #[.int .i64 y] 3)) := by
  obtain ⟨i0, hi, hz0, hz1, hz2⟩ := info_parts Tryz.infoIntO
  have hra : NInts (wr.alloc (.cells #[.int .i64 y] 3)) base bv m := World.ownsRow.alloc hrow _
  refine wpList_append_own _ hgd s x 69 ho base 3 i0 (.int .i64 0) 1 8 Tryz.underlying69 hi hz0 hz1 hz2 rfl (by decide) _ _ _ hs hra ⟨wr.heap.size, 0, none⟩ 1 1 [.int .i64 y] hx rfl
    (cell_one_new _ _ _) (by intro u hu; simp at hu; subst hu; rfl) (by unfold maxLen; omega) (by omega) (by simp; omega) ?_
  intro v' w' h1 h2 _
  refine h v' w' ?_ (((Below.refl base wr).alloc hbase _).trans ((Below.refl base _).grown h2 (by simp; omega) (fun k hk => (World.ownsRow.lt hra k hk).1))) h2
  unfold NInts
  rw [List.length_append, List.map_append]
  exact h1
theorem NInts.below {w w' : World} {base : Nat} {v : Value} {l : List Int} (h : NInts w base v l) (hb : Below w.heap.size w w') : NInts w' base v l := row_kept h (F := []) (Kept.of_below hb) (by simp)
/-- A row of numbers beside a builder that is written to. -/
theorem NInts.beside {w w' : World} {b base : Nat} {v : Value} {l : List Int} (h : NInts w base v l) (hk : KeepsBut b w w') (hb : b < base) : NInts w' base v l := by
  refine ⟨h.1, ?_⟩
  rcases h.2 with hnil | ⟨g, cap, cur, rfl, hbg, hg, rest⟩
  · exact .inl hnil
  · exact .inr ⟨g, cap, cur, rfl, hbg, hk g 3 cur (by omega) (by decide) hg, rest⟩
/-- An object of another type beside a row of numbers that grows. -/
theorem hasO_grown {g base n : Nat} {t : TypeId} {cs : Array Value} {xs : List Value} {v : Value} {w w' : World} (h : Has w g t cs) (ht : t ≠ 3) (hr : w.ownsRow base 3 1 v n xs) (hg : w.grownBy w' v.ownBlock) : Has w' g t cs := by
  refine (hg.block g h.inside fun e => ?_).trans h
  rcases hr.2 with ⟨rfl, _⟩ | ⟨g', cap, cur, rfl, _, hgc, _⟩
  · simp [Value.ownBlock] at e
  · simp [Value.ownBlock] at e
    subst e
    have h3 : w.heap[g]? = _ := h
    rw [hgc] at h3
    simp at h3
    exact ht h3.2.symm
/-- A builder beside a row of numbers that grows. -/
theorem bldO_grown {B b base n : Nat} {bs xs : List Value} {v : Value} {w w' : World} (h : IsBuilder 179 5 B b bs w) (hr : w.ownsRow base 3 1 v n xs) (hg : w.grownBy w' v.ownBlock) : IsBuilder 179 5 B b bs w' := by
  have key : ∀ (g : Nat) (cs : Array Value) (t : TypeId) (f : Nat × Nat), t ≠ 3 → w.heap[g]? = some (.cells cs t f) → w'.heap[g]? = some (.cells cs t f) := fun g cs t f ht hh => by
    refine (hg.block g (Array.getElem?_eq_some_iff.1 hh).1 fun e => ?_).trans hh
    rcases hr.2 with ⟨rfl, _⟩ | ⟨g', cap, cur, rfl, _, hgc, _⟩
    · simp [Value.ownBlock] at e
    · simp [Value.ownBlock] at e
      subst e
      rw [hgc] at hh
      simp at hh
      exact ht hh.2.1.symm
  have row : ∀ v2, w.ownsRow B 5 1 v2 bs.length bs → w'.ownsRow B 5 1 v2 bs.length bs := fun v2 h => by
    refine ⟨h.1, ?_⟩
    rcases h.2 with hnil | ⟨g, cap, cur, rfl, hbg, hg, rest⟩
    · exact .inl hnil
    · exact .inr ⟨g, cap, cur, rfl, hbg, key g cur _ _ (by decide) hg, rest⟩
  rcases h with ⟨h1, v2, h2, h3, h4⟩ | ⟨h1, v2, h2, h3, h4⟩
  · exact .inl ⟨h1, v2, key b _ _ _ (by decide) h2, row _ h3, h4⟩
  · exact .inr ⟨h1, v2, key b _ _ _ (by decide) h2, row _ h3, h4⟩
theorem bldO_below {B b : Nat} {bs : List Value} {w w' : World} (h : IsBuilder 179 5 B b bs w) (hb : Below w.heap.size w w') : IsBuilder 179 5 B b bs w' := by
  rcases h with ⟨h1, v, h2, h3, h4⟩ | ⟨h1, v, h2, h3, h4⟩
  · exact .inl ⟨h1, v, (hb.block b (lt_of_block h2)).trans h2, row_kept (F := []) h3 (Kept.of_below hb) (fun g _ hF => by simp at hF), h4⟩
  · exact .inr ⟨h1, v, (hb.block b (lt_of_block h2)).trans h2, row_kept (F := []) h3 (Kept.of_below hb) (fun g _ hF => by simp at hF), h4⟩
end Go.Proofs.YtlignamakiiokaaGreatDoor
