/-
  A region whose order is open, whose last operations write where others have read: what the reads lean on is asked behind every operation that stands ahead of the first writer, which waits, by whatever road, for all that is not taken yet.
-/
import Derived.Test.YtpoocbkligjgbaaGreatDoorMg1
import Derived.OrdersHeld
import Derived.Deep.MidRow
namespace Go.Proofs.YtpoocbkligjgbaaGreatDoor
open Go.RowKit

section
variable {P : Program} {ops : Array Oper} {Q : Exit → Act → World → Prop} {md : Region.Mode} {S : World → Prop} {last : Nat}

/-- Whatever order is picked from here on; S holds behind every operation ahead of 'last'. -/
def Till (P : Program) (md : Region.Mode) (ops : Array Oper) (Q : Exit → Act → World → Prop) (S : World → Prop) (last : Nat) : Nat → Array Bool → Act → World → Prop
  | 0, seen, a, w => Region.ready md ops seen = [] ∧ Q .normal a w
  | n + 1, seen, a, w => (Region.ready md ops seen = [] → Q .normal a w) ∧ ∀ i ∈ Region.ready md ops seen, wpOp P ops Q i (fun a' w' => (i < last → S w') ∧ Till P md ops Q S last n (seen.setIfInBounds i true) a' w') a w

theorem till_any : ∀ (n : Nat) (seen : Array Bool) (a : Act) (w : World), Till P md ops Q S last n seen a w → wpAny P md ops Q n seen a w
  | 0, _, _, _, h => h
  | n + 1, _, _, _, h => ⟨h.1, fun i hi => wpOp_mono (fun a' w' hh => till_any n _ a' w' hh.2) (h.2 i hi)⟩

/-- What is asked may change on the way: from nothing to something. -/
theorem till_turn (last' : Nat) : ∀ (n : Nat) (seen : Array Bool) (a : Act) (w : World), Till P md ops Q S last n seen a w → Till P md ops Q (fun _ => True) last' n seen a w
  | 0, _, _, _, h => h
  | n + 1, _, _, _, h => ⟨h.1, fun i hi => wpOp_mono (fun a' w' hh => ⟨fun _ => trivial, till_turn last' n _ a' w' hh.2⟩) (h.2 i hi)⟩

/-- All that what is seen waits for is seen. -/
def Closed (md : Region.Mode) (ops : Array Oper) (seen : Array Bool) : Prop := ∀ j oj, ops[j]? = some oj → seen.getD j false = true → ∀ e ∈ oj.after, Region.binds md e = true → seen.getD e.on false = true
def closedB (md : Region.Mode) (ops : Array Oper) (seen : Array Bool) : Bool :=
  (List.range ops.size).all fun j => !seen.getD j false || ((ops[j]?).map fun o => o.after.all fun e => !Region.binds md e || seen.getD e.on false).getD true

theorem closedB_spec {seen : Array Bool} (h : closedB md ops seen = true) : Closed md ops seen := by
  intro j oj hj hs e he hb
  have hlt : j < ops.size := (Array.getElem?_eq_some_iff.1 hj).1
  have h1 := List.all_eq_true.1 h j (List.mem_range.2 hlt)
  rw [hs, hj] at h1
  simp only [Bool.not_true, Bool.false_or, Option.map_some, Option.getD_some] at h1
  have h2 := Array.all_eq_true_iff_forall_mem.1 h1 e he
  rw [hb] at h2
  simpa using h2

/-- The operations that wait for i, by whatever road. -/
def waiters (md : Region.Mode) (ops : Array Oper) (i : Nat) : List Nat :=
  (List.range ops.size).foldl (fun acc j => if ((ops[j]?).map fun o => o.after.any fun e => Region.binds md e && acc.contains e.on).getD false then j :: acc else acc) [i]

theorem waiters_spec {seen : Array Bool} {i : Nat} (hc : Closed md ops seen) (hi : seen.getD i false = false) :
    ∀ j ∈ waiters md ops i, seen.getD j false = false ∧ (j = i ∨ ∃ oj, ops[j]? = some oj ∧ ∃ e ∈ oj.after, Region.binds md e = true ∧ seen.getD e.on false = false) := by
  unfold waiters
  generalize List.range ops.size = L
  have key : ∀ (L : List Nat) (acc : List Nat), (∀ j ∈ acc, seen.getD j false = false ∧ (j = i ∨ ∃ oj, ops[j]? = some oj ∧ ∃ e ∈ oj.after, Region.binds md e = true ∧ seen.getD e.on false = false)) →
      ∀ j ∈ L.foldl (fun acc j => if ((ops[j]?).map fun o => o.after.any fun e => Region.binds md e && acc.contains e.on).getD false then j :: acc else acc) acc,
        seen.getD j false = false ∧ (j = i ∨ ∃ oj, ops[j]? = some oj ∧ ∃ e ∈ oj.after, Region.binds md e = true ∧ seen.getD e.on false = false) := by
    intro L
    induction L with
    | nil => intro acc h j hj; exact h j hj
    | cons x r ih =>
      intro acc h
      rw [List.foldl_cons]
      refine ih _ ?_
      split
      · rename_i hx
        intro j hj
        rcases List.mem_cons.1 hj with rfl | hj
        · cases hox : ops[j]? with
          | none => rw [hox] at hx; simp at hx
          | some oj =>
            rw [hox] at hx
            simp only [Option.map_some, Option.getD_some, Array.any_eq_true', Bool.and_eq_true] at hx
            obtain ⟨e, he, hb, hacc⟩ := hx
            have hun := (h e.on (by simpa using hacc)).1
            refine ⟨?_, .inr ⟨oj, rfl, e, he, hb, hun⟩⟩
            cases hs : seen.getD j false with
            | false => rfl
            | true => have := hc j oj hox hs e he hb; rw [this] at hun; cases hun
        · exact h j hj
      · exact h
  refine key L [i] ?_
  intro j hj
  obtain rfl : j = i := by simpa using hj
  exact ⟨hi, .inl rfl⟩

/-- Do all from 'last' on wait for i? -/
def blocksB (md : Region.Mode) (ops : Array Oper) (last i : Nat) : Bool := (List.range ops.size).all fun j => decide (j < last) || (decide (j ≠ i) && (waiters md ops i).contains j)

theorem not_ready_last {seen : Array Bool} {i j : Nat} (hb : blocksB md ops last i = true) (hc : Closed md ops seen) (hi : seen.getD i true = false) (hj : j ∈ Region.ready md ops seen) : j < last := by
  obtain ⟨_, oj, hoj, hall⟩ := mem_ready.1 hj
  have hlt : j < ops.size := (Array.getElem?_eq_some_iff.1 hoj).1
  have h1 := List.all_eq_true.1 hb j (List.mem_range.2 hlt)
  simp only [Bool.or_eq_true, decide_eq_true_eq, Bool.and_eq_true] at h1
  rcases h1 with h1 | ⟨hne, hw⟩
  · exact h1
  · have hi' : seen.getD i false = false := by
      rcases Nat.lt_or_ge i seen.size with h | h
      · simp [h] at hi ⊢; exact hi
      · simp [Array.getElem?_eq_none h]
    obtain ⟨_, h2⟩ := waiters_spec hc hi' j (by simpa using hw)
    rcases h2 with rfl | ⟨oj', hoj', e, he, hbe, hun⟩
    · exact absurd rfl hne
    · rw [hoj] at hoj'
      obtain rfl := Option.some.inj hoj'
      have := hall e he hbe
      rw [this] at hun
      cases hun

theorem Closed.set {seen : Array Bool} {j : Nat} (hc : Closed md ops seen) (hj : j ∈ Region.ready md ops seen) : Closed md ops (seen.setIfInBounds j true) := by
  obtain ⟨_, oj, hoj, hall⟩ := mem_ready.1 hj
  have up : ∀ k, seen.getD k false = true → (seen.setIfInBounds j true).getD k false = true := by
    intro k hk
    by_cases h : j = k
    · subst h
      rcases Nat.lt_or_ge j seen.size with h | h
      · simp [h]
      · simp [Array.getElem?_eq_none h] at hk
    · rw [getD_set_ne false h]; exact hk
  intro k ok hok hk e he hb
  by_cases h : j = k
  · subst h
    rw [hoj] at hok
    obtain rfl := Option.some.inj hok
    exact up _ (hall e he hb)
  · rw [getD_set_ne false h] at hk
    exact up _ (hc k ok hok hk e he hb)

theorem till_take {i : Nat} {oi : Oper} {v : Value} {n : Nat} {seen : Array Bool} {a : Act} {w : World} (hi : ops[i]? = some oi) (hs : Region.noSelect ops = true) (hf : Region.free md ops seen i = true)
    (hr : (Region.ready md ops seen).contains i = true) (hcl : closedB md ops seen = true) (hw : blocksB md ops last i = true) (hQ : ∀ c a w, Q (.panic c) (a.put oi.dst v) w → Q (.panic c) a w) (hy : YieldsIf P ops S oi v a) (hS : S w)
    (h : Till P md ops Q S last n (seen.setIfInBounds i true) (a.put oi.dst v) w) : Till P md ops Q S last (n + 1) seen a w := by
  have hsel := Region.noSelect_spec hs
  have hil : i < ops.size := (Array.getElem?_eq_some_iff.1 hi).1
  have key : ∀ (n : Nat) (seen : Array Bool) (a : Act) (w : World), (∀ j oj, ops[j]? = some oj → j ≠ i → seen.getD j true = false → (∀ e ∈ oj.after, Region.binds md e = true → e.on ≠ i) → oi.apart ops oj = true) →
      i ∈ Region.ready md ops seen → Closed md ops seen → YieldsIf P ops S oi v a → S w → Till P md ops Q S last n (seen.setIfInBounds i true) (a.put oi.dst v) w → Till P md ops Q S last (n + 1) seen a w := by
    intro n
    induction n with
    | zero =>
      intro seen a w _ hr _ hy hS H
      refine ⟨(fun h0 => by rw [h0] at hr; cases hr), fun j hj => ?_⟩
      by_cases hji : j = i
      · subst hji
        exact hy.wpOp hi hS ⟨fun _ => hS, H⟩
      · have h1 := ready_mono hj hji
        rw [H.1] at h1
        cases h1
    | succ n ih =>
      intro seen a w hap hr hc hy hS H
      refine ⟨(fun h0 => by rw [h0] at hr; cases hr), fun j hj => ?_⟩
      by_cases hji : j = i
      · subst hji
        exact hy.wpOp hi hS ⟨fun _ => hS, H⟩
      · have hun := (mem_ready.1 hr).1
        have hjl : j < last := not_ready_last hw hc hun hj
        obtain ⟨hjun, oj, hoj, hall⟩ := mem_ready.1 hj
        have hno : ∀ e ∈ oj.after, Region.binds md e = true → e.on ≠ i := fun e he hb heq => by
          have h1 := hall e he hb
          rw [heq] at h1
          rcases Nat.lt_or_ge i seen.size with hlt | hge
          · simp [hlt] at hun h1
            rw [hun] at h1
            cases h1
          · simp [Array.getElem?_eq_none hge] at h1
        have h2 := wpOp_putIf hoj (hap j oj hoj hji hjun hno) (fun cs b => hsel i oi cs b hi) (fun cs b => hsel j oj cs b hoj) hQ hy (H.2 j (ready_mono hj hji))
        refine wpOp_mono (fun a' w' h3 => ⟨h3.2.1, ih (seen.setIfInBounds j true) a' w' (fun k ok hk hki hu hn => hap k ok hk hki ?_ hn) (ready_mono hr (Ne.symm hji)) (hc.set hj) h3.1 (h3.2.1 hjl) ?_⟩) h2
        · by_cases hjk : j = k
          · subst hjk
            exact hjun
          · rw [getD_set_ne true hjk] at hu
            exact hu
        · rw [Array.setIfInBounds_comm _ _ hji]
          exact h3.2.2
  exact key n seen a w (Region.free_spec hi hf) (by simpa using hr) (closedB_spec hcl) hy hS h

/-- The same, its slot named. -/
theorem till_takeAt (d : Nat) {i : Nat} {oi : Oper} {v : Value} {n : Nat} {seen : Array Bool} {a : Act} {w : World} (hi : ops[i]? = some oi) (hd : oi.dst = some d) (hs : Region.noSelect ops = true) (hf : Region.free md ops seen i = true)
    (hr : (Region.ready md ops seen).contains i = true) (hcl : closedB md ops seen = true) (hw : blocksB md ops last i = true) (hQ : ∀ c a w, Q (.panic c) (a.put (some d) v) w → Q (.panic c) a w) (hy : YieldsIf P ops S oi v a) (hS : S w)
    (h : Till P md ops Q S last n (seen.setIfInBounds i true) ⟨a.tmps.setIfInBounds d v, a.defers⟩ w) : Till P md ops Q S last (n + 1) seen a w :=
  till_take hi hs hf hr hcl hw (by rw [hd]; exact hQ) hy hS (by rw [hd]; exact h)

/-- The one operation that may come up. -/
theorem till_one {i : Nat} {o : Oper} {n : Nat} {seen : Array Bool} {a : Act} {w : World} (hr : Region.ready md ops seen = [i]) (hi : ops[i]? = some o) (hg : o.guard = none)
    (h : ∀ K : Act → World → Prop, (∀ a' w', ((i < last → S w') ∧ Till P md ops Q S last n (seen.setIfInBounds i true) a' w') → K a' w') → o.wp P a w K Q) : Till P md ops Q S last (n + 1) seen a w := by
  refine ⟨(fun h0 => by rw [hr] at h0; cases h0), fun j hj => ?_⟩
  rw [hr] at hj
  obtain rfl : j = i := by simpa using hj
  unfold wpOp
  simp only [hi]
  rw [if_pos (by simp [Region.wanted, hg])]
  exact .inl (h _ fun _ _ hh => hh)

theorem till_done {seen : Array Bool} {a : Act} {w : World} (hr : Region.ready md ops seen = []) (h : Q .normal a w) : ∀ n, Till P md ops Q S last n seen a w
  | 0 => ⟨hr, h⟩
  | _ + 1 => ⟨fun _ => h, by rw [hr]; simp⟩

theorem wp_region_tills (S : World → Prop) (last : Nat) {id : Nat} {a : Act} {w : World} (hm : P.follows .mixedOrders = true) (h : Till P .any ops Q S last ops.size (Array.replicate ops.size false) a w.drew) : (Code.region id ops true).wp P Q a w :=
  wp_region_any hm (till_any _ _ _ _ h)

end
end Go.Proofs.YtpoocbkligjgbaaGreatDoor
