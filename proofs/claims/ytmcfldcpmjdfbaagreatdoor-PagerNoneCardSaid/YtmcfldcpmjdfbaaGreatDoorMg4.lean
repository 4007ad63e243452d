/-
  The calls of a pile of numbers. A region whose order is open, whose last operations write where others have read: what the reads lean on is asked behind every operation that stands ahead of the first writer, which waits, by whatever road, for all that is not taken yet.
-/
import Derived.Test.YtmcfldcpmjdfbaaGreatDoorMg3
import Derived.Test.YtmcfldcpmjdfbaaGreatDoorMg1
import Derived.OrdersHeld
import Derived.Deep.MidRow
namespace Go.Proofs.YtmcfldcpmjdfbaaGreatDoor
open Go.RowKit Go.Sort

theorem below_of_grownBy' {a b : World} {row : Option Nat} {B : Nat} (h : a.grownBy b row) (hB : B ≤ a.heap.size) (hg : ∀ g, row = some g → B ≤ g) : Below B a b :=
  ⟨h.os, h.tape, h.output, h.size, fun k hk => h.block k (by omega) (fun e => by have := hg k e.symm; omega)⟩

/-- A pile at p that holds what stands in l. -/
def PileIs (p : Nat) {o : Nat} (S : Spot o) (w : World) (F : List Nat) (l : List Int) : Prop := HeapOf ltInt (NumAt p S) F l w

theorem PileIs.kept {p o : Nat} {S : Spot o} {w w' : World} {F G : List Nat} {l : List Int} (h : PileIs p S w F l) (hk : Kept G w w') (hd : ∀ k ∈ F, k ∉ G) : PileIs p S w' F l := by
  obtain ⟨a, ha, h1, h2⟩ := h
  exact ⟨a, ha.kept hk hd, h1, h2⟩
theorem PileIs.below {p o : Nat} {S : Spot o} {w w' : World} {F : List Nat} {l : List Int} (h : PileIs p S w F l) (hb : Below w.heap.size w w') : PileIs p S w' F l := h.kept (G := []) (Kept.of_below hb) (by simp)
theorem PileIs.lt {p o : Nat} {S : Spot o} {w : World} {F : List Nat} {l : List Int} (h : PileIs p S w F l) : ∀ k ∈ F, k < w.heap.size := by
  obtain ⟨a, ha, _⟩ := h
  exact ha.lt
theorem PileIs.perm {p o : Nat} {S : Spot o} {w : World} {F : List Nat} {l m : List Int} (h : PileIs p S w F l) (hp : l.Perm m) : PileIs p S w F m := by
  obtain ⟨a, ha, h1, h2⟩ := h
  exact ⟨a, ha, h1, h2.trans hp⟩
theorem PileIs.few {p o : Nat} {S : Spot o} {w : World} {F : List Nat} {l : List Int} (h : PileIs p S w F l) : l.length ≤ 1000000 := by
  obtain ⟨a, ⟨_, _, _, _, _, hs⟩, h1, h2⟩ := h
  have := h2.length_eq
  simp at this
  omega

theorem ltInt_iff {x y : Int} : ltInt x y = false ↔ y ≤ x := by
  unfold ltInt
  simp

/-- x is one of the least of x :: s. -/
theorem pile_first {a : Array Int} {x : Int} {s : List Int} (hh : HeapFrom ltInt a a.size 0) (hp : a.toList.Perm (x :: s)) (hm : ∀ y ∈ s, x ≤ y) : 0 < a.size ∧ a[0]! = x := by
  have hl : a.size = s.length + 1 := by simpa using hp.length_eq
  have h0 : 0 < a.size := by omega
  refine ⟨h0, ?_⟩
  have hin : a[0]! ∈ a.toList := by
    have : a[0]! = a[0] := by simp [h0]
    rw [this]; simp
  have hle : x ≤ a[0]! := by
    rcases List.mem_cons.1 (hp.mem_iff.1 hin) with h | h
    · omega
    · exact hm _ h
  have hx : x ∈ a.toList := hp.mem_iff.2 (by simp)
  obtain ⟨k, hk, rfl⟩ := List.mem_iff_getElem.1 hx
  have hk' : k < a.size := by simpa using hk
  have e : a.toList[k] = a[k]! := by simp [hk']
  have := ltInt_iff.1 (hh.least swo_ltInt k hk')
  omega

/-- A pile that lies alone. -/
def plainSpot : Spot 0 := ⟨33, fun v => #[v], fun _ => rfl, fun _ _ => rfl⟩

set_option maxRecDepth 100000 in
theorem put_any {p o : Nat} {S : Spot o} {w : World} {F : List Nat} {l xs : List Int} {v : Value} (h : PileIs p S w F l) (hv : ReadsO F w v (xs.map (.int .i64))) (hl : xs.length + l.length ≤ 1000000) :
    Calls Tryz.prog 59 #[.pointer (some ⟨p, o, none⟩), v] w fun e w' => e = .returned (.tuple #[]) ∧ ∃ F', PileIs p S w' F' (xs ++ l) ∧ Goes F w F' w' := by
  obtain ⟨A, c, rfl, hr⟩ := hv
  rw [List.length_map] at *
  obtain ⟨n, hn⟩ : ∃ n, xs.length = n := ⟨_, rfl⟩
  have HR := Lib.hid (show ReadsO F w (.slice A n c) (xs.map (.int .i64)) from ⟨A, c, by rw [List.length_map, hn], by rw [List.length_map]; exact hr⟩)
  have HN := Lib.hid (And.intro hn hl)
  have H := Lib.hid h
  rw [hn]
  have hnb : n ≤ 1000000 := by omega
  clear h hr hl hn
  go_enter Tryz.func59, Tryz.ntmps59
  go_wp2_with fail
  go_loopg [10] n (fun g i wr => ∃ (k : Nat), i = .int .i64 k ∧ k + g = n ∧ ∃ G, PileIs p S wr G (xs.take k ++ l) ∧ Goes F w G wr)
  case atStart => exact ⟨0, rfl, by omega, F, by simpa using H.out, Goes.refl _ _⟩
  case round =>
    obtain ⟨k, rfl, hkg, G, hp, hgo⟩ := hrel
    by_cases hlt : k < n
    · have hlt' : k < xs.length := by rw [HN.out.1]; exact hlt
      have hro := HR.out.goes hgo
      obtain ⟨A', c', hA, hro⟩ := hro
      obtain ⟨b, off, hAb, hbl, hbG, hcell⟩ := hro (by rw [List.length_map]; omega)
      simp only [Value.slice.injEq] at hA
      obtain ⟨rfl, hA2, rfl⟩ := hA
      subst hAb
      have hck := hcell k (.int .i64 xs[k]) (by simp [hlt'])
      obtain ⟨a, ha, hh, hpm⟩ := hp
      have hsz : a.size < 1000000 := by
        have h1 := hpm.length_eq
        have h2 := HN.out.2
        simp at h1
        omega
      have hpu := hpush_at (numHO p S) xs[k] ha hh hsz
      have HP := Lib.hid (And.intro hgo hpm)
      have e1 : (xs.take (k + 1)) = xs.take k ++ [xs[k]] := by rw [List.take_succ_eq_append_getElem hlt']
      have HE := Lib.hid e1
      generalize hx : xs[k] = x at *
      have k0 : (0 : Int) ≤ k := by omega
      have k1 : (k : Int) < n := by omega
      clear hgo hpm e1 hcell ha hh hbl hbG hA2 hro hx
      go_wp2_with fail
      refine hpu.mono ?_
      rintro e w2 ⟨rfl, G', hp2, hg2⟩
      have H2 := Lib.hid (And.intro hp2 hg2)
      clear hp2 hg2 hpu
      go_wp2
      go_roundg (n - (k + 1))
      case measure => omega
      case rel =>
        obtain ⟨hgo, hpm⟩ := HP.out
        refine ⟨k + 1, by go_num, by omega, G', PileIs.perm H2.out.1 ?_, hgo.trans H2.out.2⟩
        rw [HE.out, List.append_assoc]
        refine (hpm.cons x).trans ?_
        exact (List.perm_middle (l₁ := xs.take k) (a := x) (l₂ := l)).symm
    · obtain rfl : k = n := by omega
      have HP := Lib.hid (And.intro hp hgo)
      clear hp hgo
      go_wp2_with fail
      go_end0
      refine ⟨rfl, G, ?_, HP.out.2⟩
      have h1 := HP.out.1
      rwa [List.take_of_length_le (by rw [HN.out.1]; exact Nat.le_refl _)] at h1

set_option maxRecDepth 100000 in
theorem nfirst_some {p o : Nat} {S : Spot o} {w : World} {F : List Nat} {a : Array Int} (h : NumAt p S w F a) (h0 : 0 < a.size) :
    Calls Tryz.prog 121 #[.pointer (some ⟨p, o, none⟩)] w fun e w' => e = .returned (.tuple #[.int .i64 a[0]!, .bool true]) ∧ w' = w := by
  obtain ⟨g, cap, hp, hr, hne, rfl, hcap, hs, hm⟩ := h.open h0
  have hc := hp.spot
  have c0 := (hr.cellAt 0 (by omega)).trans (ints_at (by omega))
  generalize a[0]! = x at *
  generalize a.size = n at *
  have hz : ((n : Int) == 0) = false := by simp; omega
  have hb : decide ((0 : Int) < (n : Int)) = true := by simp; omega
  clear h hp hr
  go_enter Tryz.func121, Tryz.ntmps121
  go_wp2
  go_ret2
  exact ⟨rfl, rfl⟩

theorem nfirst_none {p o : Nat} {S : Spot o} {w : World} {F : List Nat} {a : Array Int} (h : NumAt p S w F a) (h0 : a.size = 0) :
    Calls Tryz.prog 121 #[.pointer (some ⟨p, o, none⟩)] w fun e w' => e = .returned (.tuple #[.int .i64 0, .bool false]) ∧ w' = w := by
  obtain ⟨v, hp, hr, hne, rfl, hs⟩ := h
  rw [h0] at hr
  obtain ⟨A, c, rfl⟩ := row_form hr
  have hc := hp.spot
  clear hp hr h0
  go_enter Tryz.func121, Tryz.ntmps121
  go_wp2
  go_ret2
  exact ⟨rfl, rfl⟩

theorem first_some {p o : Nat} {S : Spot o} {w : World} {F : List Nat} {l : List Int} {x : Int} {s : List Int} (h : PileIs p S w F l) (hp : l.Perm (x :: s)) (hm : ∀ y ∈ s, x ≤ y) :
    Calls Tryz.prog 88 #[.pointer (some ⟨p, o, none⟩)] w fun e w' => e = .returned (.tuple #[.int .i64 x, .bool true]) ∧ w' = w := by
  obtain ⟨a, ha, hh, hpm⟩ := h
  obtain ⟨h0, hx⟩ := pile_first hh (hpm.trans hp) hm
  have hf := nfirst_some ha h0
  rw [hx] at hf
  clear ha hh hpm hx hp hm h0
  go_enter Tryz.func88, Tryz.ntmps88
  go_wp2_with fail
  refine hf.mono ?_
  rintro e w' ⟨rfl, rfl⟩
  go_wp2_with fail
  go_ret2
  exact ⟨rfl, rfl⟩

theorem first_none {p o : Nat} {S : Spot o} {w : World} {F : List Nat} (h : PileIs p S w F []) :
    Calls Tryz.prog 88 #[.pointer (some ⟨p, o, none⟩)] w fun e w' => e = .returned (.tuple #[.int .i64 0, .bool false]) ∧ w' = w := by
  obtain ⟨a, ha, hh, hpm⟩ := h
  have hf := nfirst_none ha (by simpa using hpm.length_eq)
  clear ha hh hpm
  go_enter Tryz.func88, Tryz.ntmps88
  go_wp2_with fail
  refine hf.mono ?_
  rintro e w' ⟨rfl, rfl⟩
  go_wp2_with fail
  go_ret2
  exact ⟨rfl, rfl⟩

set_option maxRecDepth 100000 in
theorem take_some {p o : Nat} {S : Spot o} {w : World} {F : List Nat} {l : List Int} {x : Int} {s : List Int} (h : PileIs p S w F l) (hp : l.Perm (x :: s)) (hm : ∀ y ∈ s, x ≤ y) :
    Calls Tryz.prog 66 #[.pointer (some ⟨p, o, none⟩)] w fun e w' => e = .returned (.tuple #[.int .i64 x, .bool true]) ∧ PileIs p S w' F s ∧ Kept F w w' := by
  have hf := first_some h hp hm
  obtain ⟨a, ha, hh, hpm⟩ := h
  obtain ⟨h0, hx⟩ := pile_first hh (hpm.trans hp) hm
  have hpo := hpop_at (numHO p S) s ha hh h0 (by rw [hx]; exact hpm.trans hp)
  clear ha hh hpm hx hp hm h0
  go_enter Tryz.func66, Tryz.ntmps66
  go_wp2_with fail
  refine hf.mono ?_
  rintro e w' ⟨rfl, rfl⟩
  clear hf
  go_wp2_with fail
  refine hpo.mono ?_
  rintro e w1 ⟨rfl, hp, hk⟩
  have H := Lib.hid (And.intro hp hk)
  clear hp hk hpo
  go_wp2_with fail
  go_ret2
  exact ⟨rfl, H.out.1, H.out.2⟩

set_option maxRecDepth 100000 in
theorem take_none {p o : Nat} {S : Spot o} {w : World} {F : List Nat} (h : PileIs p S w F []) :
    Calls Tryz.prog 66 #[.pointer (some ⟨p, o, none⟩)] w fun e w' => e = .returned (.tuple #[.int .i64 0, .bool false]) ∧ w' = w := by
  have hf := first_none h
  clear h
  go_enter Tryz.func66, Tryz.ntmps66
  go_wp2_with fail
  refine hf.mono ?_
  rintro e w' ⟨rfl, rfl⟩
  clear hf
  go_wp2_with fail
  go_ret2
  exact ⟨rfl, rfl⟩

theorem len_any {p o : Nat} {S : Spot o} {w : World} {F : List Nat} {l : List Int} (h : PileIs p S w F l) :
    Calls Tryz.prog 180 #[.pointer (some ⟨p, o, none⟩)] w fun e w' => e = .returned (.int .i64 (l.length : Nat)) ∧ w' = w := by
  obtain ⟨a, ha, hh, hpm⟩ := h
  have hl := nlen_any ha
  rw [show a.size = l.length by simpa using hpm.length_eq] at hl
  clear ha hh hpm
  generalize l.length = n at *
  go_enter Tryz.func180, Tryz.ntmps180
  go_wp2_with fail
  refine hl.mono ?_
  rintro e w' ⟨rfl, rfl⟩
  go_wp2_with fail
  go_ret
  exact ⟨rfl, rfl⟩

set_option maxRecDepth 100000 in
theorem list_any {p o : Nat} {S : Spot o} {w : World} {F : List Nat} {l : List Int} (h : PileIs p S w F l) :
    Calls Tryz.prog 62 #[.pointer (some ⟨p, o, none⟩)] w fun e w' => ∃ v', e = .returned v' ∧ w'.ownsRow w.heap.size 3 1 v' l.length ((l.mergeSort leInt).map (.int .i64)) ∧ Below w.heap.size w w' := by
  have hfew := h.few
  obtain ⟨a, ha, hh, hpm⟩ := h
  obtain ⟨v, hp, hr, hne, rfl, hs⟩ := ha
  have hro : ReadsO [] w v (a.toList.map (.int .i64)) := row_readsO hr (fun g _ => by simp)
  have hcl := clone_any hro (by simpa using hs)
  have hc := hp.spot
  obtain ⟨A, c, rfl⟩ := row_form hr
  have hz : a.toList.length = l.length := hpm.length_eq
  have HP := Lib.hid (And.intro hpm (And.intro hz hfew))
  clear hp hr hne hs hh hpm hro hz hfew
  generalize a.size = n at *
  go_enter Tryz.func62, Tryz.ntmps62
  go_wp2_with fail
  refine hcl.mono ?_
  rintro e w1 ⟨v', rfl, ho, hb⟩
  obtain ⟨A', c', rfl⟩ := row_form ho
  have hso := sort_own ho (by have := HP.out; omega)
  have HB := Lib.hid (And.intro ho hb)
  generalize hm : a.toList.length = m at *
  clear ho hb hcl hc
  go_wp2_with fail
  refine hso.mono ?_
  rintro e w2 ⟨rfl, ho2, hg2⟩
  have H2 := Lib.hid (And.intro ho2 hg2)
  clear ho2 hg2 hso
  go_wp2_with fail
  go_ret
  obtain ⟨hpm, hz, hfew⟩ := HP.out
  obtain ⟨ho, hb⟩ := HB.out
  obtain ⟨ho2, hg2⟩ := H2.out
  refine ⟨_, rfl, ?_, hb.trans ?_⟩
  · rw [← hz, ← sort_perm hpm]
    exact ho2
  · exact below_of_grownBy' hg2 hb.size (fun g hg => (ho.lt g hg).1)

theorem erase_perm {a : Array Int} {l : List Int} {x : Int} {k : Nat} (hp : a.toList.Perm l) (hk : a.toList[k]? = some x) : k < a.size ∧ a[k]! = x ∧ a.toList.Perm (a[k]! :: l.erase x) := by
  obtain ⟨hlt, he⟩ := List.getElem?_eq_some_iff.1 hk
  have hlt' : k < a.size := by simpa using hlt
  have e : a[k]! = x := by
    rw [← he]
    simp [hlt']
  refine ⟨hlt', e, ?_⟩
  rw [e]
  have hmem : x ∈ l := hp.mem_iff.1 (by rw [← he]; exact List.getElem_mem hlt)
  exact hp.trans (List.perm_cons_erase hmem)

end Go.Proofs.YtmcfldcpmjdfbaaGreatDoor

namespace Go.Proofs.YtmcfldcpmjdfbaaGreatDoor
open Go.RowKit

section
variable {P : Program} {ops : Array Oper} {Q : Exit → Act → World → Prop} {md : Region.Mode} {S : World → Prop} {last : Nat}

/-- Whatever order is picked from here on; S holds behind every operation ahead of 'last'. -/
def Till (P : Program) (md : Region.Mode) (ops : Array Oper) (Q : Exit → Act → World → Prop) (S : World → Prop) (last : Nat) : Nat → Array Bool → Act → World → Prop
  | 0, seen, a, w => Region.ready md ops seen = [] ∧ Q .normal a w
  | n + 1, seen, a, w => (Region.ready md ops seen = [] → Q .normal a w) ∧ ∀ i ∈ Region.ready md ops seen, wpOp P ops Q i (fun a' w' => (i < last → S w') ∧ Till P md ops Q S last n (seen.setIfInBounds i true) a' w') a w

theorem till_any : ∀ (n : Nat) (seen : Array Bool) (a : Act) (w : World), Till P md ops Q S last n seen a w → wpAny P md ops Q n seen a w
  | 0, _, _, _, h => h
  | n + 1, _, _, _, h => ⟨h.1, fun i hi => wpOp_mono (fun a' w' hh => till_any n _ a' w' hh.2) (h.2 i hi)⟩

/-- What is asked may change on the way: from nothing to something. -/
theorem till_turn (last' : Nat) : ∀ (n : Nat) (seen : Array Bool) (a : Act) (w : World), Till P md ops Q S last n seen a w → Till P md ops Q (fun _ => True) last' n seen a w
  | 0, _, _, _, h => h
  | n + 1, _, _, _, h => ⟨h.1, fun i hi => wpOp_mono (fun a' w' hh => ⟨fun _ => trivial, till_turn last' n _ a' w' hh.2⟩) (h.2 i hi)⟩

/-- All that what is seen waits for is seen. -/
def Closed (md : Region.Mode) (ops : Array Oper) (seen : Array Bool) : Prop := ∀ j oj, ops[j]? = some oj → seen.getD j false = true → ∀ e ∈ oj.after, Region.binds md e = true → seen.getD e.on false = true
def closedB (md : Region.Mode) (ops : Array Oper) (seen : Array Bool) : Bool :=
  (List.range ops.size).all fun j => !seen.getD j false || ((ops[j]?).map fun o => o.after.all fun e => !Region.binds md e || seen.getD e.on false).getD true

theorem closedB_spec {seen : Array Bool} (h : closedB md ops seen = true) : Closed md ops seen := by
  intro j oj hj hs e he hb
  have hlt : j < ops.size := (Array.getElem?_eq_some_iff.1 hj).1
  have h1 := List.all_eq_true.1 h j (List.mem_range.2 hlt)
  rw [hs, hj] at h1
  simp only [Bool.not_true, Bool.false_or, Option.map_some, Option.getD_some] at h1
  have h2 := Array.all_eq_true_iff_forall_mem.1 h1 e he
  rw [hb] at h2
  simpa using h2

/-- The operations that wait for i, by whatever road. -/
def waiters (md : Region.Mode) (ops : Array Oper) (i : Nat) : List Nat :=
  (List.range ops.size).foldl (fun acc j => if ((ops[j]?).map fun o => o.after.any fun e => Region.binds md e && acc.contains e.on).getD false then j :: acc else acc) [i]

theorem waiters_spec {seen : Array Bool} {i : Nat} (hc : Closed md ops seen) (hi : seen.getD i false = false) :
    ∀ j ∈ waiters md ops i, seen.getD j false = false ∧ (j = i ∨ ∃ oj, ops[j]? = some oj ∧ ∃ e ∈ oj.after, Region.binds md e = true ∧ seen.getD e.on false = false) := by
  unfold waiters
  generalize List.range ops.size = L
  have key : ∀ (L : List Nat) (acc : List Nat), (∀ j ∈ acc, seen.getD j false = false ∧ (j = i ∨ ∃ oj, ops[j]? = some oj ∧ ∃ e ∈ oj.after, Region.binds md e = true ∧ seen.getD e.on false = false)) →
      ∀ j ∈ L.foldl (fun acc j => if ((ops[j]?).map fun o => o.after.any fun e => Region.binds md e && acc.contains e.on).getD false then j :: acc else acc) acc,
        seen.getD j false = false ∧ (j = i ∨ ∃ oj, ops[j]? = some oj ∧ ∃ e ∈ oj.after, Region.binds md e = true ∧ seen.getD e.on false = false) := by
    intro L
    induction L with
    | nil => intro acc h j hj; exact h j hj
    | cons x r ih =>
      intro acc h
      rw [List.foldl_cons]
      refine ih _ ?_
      split
      · rename_i hx
        intro j hj
        rcases List.mem_cons.1 hj with rfl | hj
        · cases hox : ops[j]? with
          | none => rw [hox] at hx; simp at hx
          | some oj =>
            rw [hox] at hx
            simp only [Option.map_some, Option.getD_some, Array.any_eq_true', Bool.and_eq_true] at hx
            obtain ⟨e, he, hb, hacc⟩ := hx
            have hun := (h e.on (by simpa using hacc)).1
            refine ⟨?_, .inr ⟨oj, rfl, e, he, hb, hun⟩⟩
            cases hs : seen.getD j false with
            | false => rfl
            | true => have := hc j oj hox hs e he hb; rw [this] at hun; cases hun
        · exact h j hj
      · exact h
  refine key L [i] ?_
  intro j hj
  obtain rfl : j = i := by simpa using hj
  exact ⟨hi, .inl rfl⟩

/-- Do all from 'last' on wait for i? -/
def blocksB (md : Region.Mode) (ops : Array Oper) (last i : Nat) : Bool := (List.range ops.size).all fun j => decide (j < last) || (decide (j ≠ i) && (waiters md ops i).contains j)

theorem not_ready_last {seen : Array Bool} {i j : Nat} (hb : blocksB md ops last i = true) (hc : Closed md ops seen) (hi : seen.getD i true = false) (hj : j ∈ Region.ready md ops seen) : j < last := by
  obtain ⟨_, oj, hoj, hall⟩ := mem_ready.1 hj
  have hlt : j < ops.size := (Array.getElem?_eq_some_iff.1 hoj).1
  have h1 := List.all_eq_true.1 hb j (List.mem_range.2 hlt)
  simp only [Bool.or_eq_true, decide_eq_true_eq, Bool.and_eq_true] at h1
  rcases h1 with h1 | ⟨hne, hw⟩
  · exact h1
  · have hi' : seen.getD i false = false := by
      rcases Nat.lt_or_ge i seen.size with h | h
      · simp [h] at hi ⊢; exact hi
      · simp [Array.getElem?_eq_none h]
    obtain ⟨_, h2⟩ := waiters_spec hc hi' j (by simpa using hw)
    rcases h2 with rfl | ⟨oj', hoj', e, he, hbe, hun⟩
    · exact absurd rfl hne
    · rw [hoj] at hoj'
      obtain rfl := Option.some.inj hoj'
      have := hall e he hbe
      rw [this] at hun
      cases hun

theorem Closed.set {seen : Array Bool} {j : Nat} (hc : Closed md ops seen) (hj : j ∈ Region.ready md ops seen) : Closed md ops (seen.setIfInBounds j true) := by
  obtain ⟨_, oj, hoj, hall⟩ := mem_ready.1 hj
  have up : ∀ k, seen.getD k false = true → (seen.setIfInBounds j true).getD k false = true := by
    intro k hk
    by_cases h : j = k
    · subst h
      rcases Nat.lt_or_ge j seen.size with h | h
      · simp [h]
      · simp [Array.getElem?_eq_none h] at hk
    · rw [getD_set_ne false h]; exact hk
  intro k ok hok hk e he hb
  by_cases h : j = k
  · subst h
    rw [hoj] at hok
    obtain rfl := Option.some.inj hok
    exact up _ (hall e he hb)
  · rw [getD_set_ne false h] at hk
    exact up _ (hc k ok hok hk e he hb)

theorem till_take {i : Nat} {oi : Oper} {v : Value} {n : Nat} {seen : Array Bool} {a : Act} {w : World} (hi : ops[i]? = some oi) (hs : Region.noSelect ops = true) (hf : Region.free md ops seen i = true)
    (hr : (Region.ready md ops seen).contains i = true) (hcl : closedB md ops seen = true) (hw : blocksB md ops last i = true) (hQ : ∀ c a w, Q (.panic c) (a.put oi.dst v) w → Q (.panic c) a w) (hy : YieldsIf P ops S oi v a) (hS : S w)
    (h : Till P md ops Q S last n (seen.setIfInBounds i true) (a.put oi.dst v) w) : Till P md ops Q S last (n + 1) seen a w := by
  have hsel := Region.noSelect_spec hs
  have hil : i < ops.size := (Array.getElem?_eq_some_iff.1 hi).1
  have key : ∀ (n : Nat) (seen : Array Bool) (a : Act) (w : World), (∀ j oj, ops[j]? = some oj → j ≠ i → seen.getD j true = false → (∀ e ∈ oj.after, Region.binds md e = true → e.on ≠ i) → oi.apart ops oj = true) →
      i ∈ Region.ready md ops seen → Closed md ops seen → YieldsIf P ops S oi v a → S w → Till P md ops Q S last n (seen.setIfInBounds i true) (a.put oi.dst v) w → Till P md ops Q S last (n + 1) seen a w := by
    intro n
    induction n with
    | zero =>
      intro seen a w _ hr _ hy hS H
      refine ⟨(fun h0 => by rw [h0] at hr; cases hr), fun j hj => ?_⟩
      by_cases hji : j = i
      · subst hji
        exact hy.wpOp hi hS ⟨fun _ => hS, H⟩
      · have h1 := ready_mono hj hji
        rw [H.1] at h1
        cases h1
    | succ n ih =>
      intro seen a w hap hr hc hy hS H
      refine ⟨(fun h0 => by rw [h0] at hr; cases hr), fun j hj => ?_⟩
      by_cases hji : j = i
      · subst hji
        exact hy.wpOp hi hS ⟨fun _ => hS, H⟩
      · have hun := (mem_ready.1 hr).1
        have hjl : j < last := not_ready_last hw hc hun hj
        obtain ⟨hjun, oj, hoj, hall⟩ := mem_ready.1 hj
        have hno : ∀ e ∈ oj.after, Region.binds md e = true → e.on ≠ i := fun e he hb heq => by
          have h1 := hall e he hb
          rw [heq] at h1
          rcases Nat.lt_or_ge i seen.size with hlt | hge
          · simp [hlt] at hun h1
            rw [hun] at h1
            cases h1
          · simp [Array.getElem?_eq_none hge] at h1
        have h2 := wpOp_putIf hoj (hap j oj hoj hji hjun hno) (fun cs b => hsel i oi cs b hi) (fun cs b => hsel j oj cs b hoj) hQ hy (H.2 j (ready_mono hj hji))
        refine wpOp_mono (fun a' w' h3 => ⟨h3.2.1, ih (seen.setIfInBounds j true) a' w' (fun k ok hk hki hu hn => hap k ok hk hki ?_ hn) (ready_mono hr (Ne.symm hji)) (hc.set hj) h3.1 (h3.2.1 hjl) ?_⟩) h2
        · by_cases hjk : j = k
          · subst hjk
            exact hjun
          · rw [getD_set_ne true hjk] at hu
            exact hu
        · rw [Array.setIfInBounds_comm _ _ hji]
          exact h3.2.2
  exact key n seen a w (Region.free_spec hi hf) (by simpa using hr) (closedB_spec hcl) hy hS h

/-- The same, its slot named. -/
theorem till_takeAt (d : Nat) {i : Nat} {oi : Oper} {v : Value} {n : Nat} {seen : Array Bool} {a : Act} {w : World} (hi : ops[i]? = some oi) (hd : oi.dst = some d) (hs : Region.noSelect ops = true) (hf : Region.free md ops seen i = true)
    (hr : (Region.ready md ops seen).contains i = true) (hcl : closedB md ops seen = true) (hw : blocksB md ops last i = true) (hQ : ∀ c a w, Q (.panic c) (a.put (some d) v) w → Q (.panic c) a w) (hy : YieldsIf P ops S oi v a) (hS : S w)
    (h : Till P md ops Q S last n (seen.setIfInBounds i true) ⟨a.tmps.setIfInBounds d v, a.defers⟩ w) : Till P md ops Q S last (n + 1) seen a w :=
  till_take hi hs hf hr hcl hw (by rw [hd]; exact hQ) hy hS (by rw [hd]; exact h)

/-- The one operation that may come up. -/
theorem till_one {i : Nat} {o : Oper} {n : Nat} {seen : Array Bool} {a : Act} {w : World} (hr : Region.ready md ops seen = [i]) (hi : ops[i]? = some o) (hg : o.guard = none)
    (h : ∀ K : Act → World → Prop, (∀ a' w', ((i < last → S w') ∧ Till P md ops Q S last n (seen.setIfInBounds i true) a' w') → K a' w') → o.wp P a w K Q) : Till P md ops Q S last (n + 1) seen a w := by
  refine ⟨(fun h0 => by rw [hr] at h0; cases h0), fun j hj => ?_⟩
  rw [hr] at hj
  obtain rfl : j = i := by simpa using hj
  unfold wpOp
  simp only [hi]
  rw [if_pos (by simp [Region.wanted, hg])]
  exact .inl (h _ fun _ _ hh => hh)

theorem till_done {seen : Array Bool} {a : Act} {w : World} (hr : Region.ready md ops seen = []) (h : Q .normal a w) : ∀ n, Till P md ops Q S last n seen a w
  | 0 => ⟨hr, h⟩
  | _ + 1 => ⟨fun _ => h, by rw [hr]; simp⟩

theorem wp_region_tills (S : World → Prop) (last : Nat) {id : Nat} {a : Act} {w : World} (hm : P.follows .mixedOrders = true) (h : Till P .any ops Q S last ops.size (Array.replicate ops.size false) a w.drew) : (Code.region id ops true).wp P Q a w :=
  wp_region_any hm (till_any _ _ _ _ h)

/-- A load of several cells. -/
theorem yields_mid {op : Oper} {a : Act} (hg : op.guard = none) (ty : TypeId) (x : Operand) (ho : op.op = .load ty x)
    (b o : Nat) (hx : a.eval x = .pointer (some ⟨b, o, none⟩)) (cs : List Value) (d : TypeDesc) (hS : ∀ w, S w → w.rangeAt b o cs)
    (hu : P.underlying ty = some d) (hd : d.isRow = true) (hi : (P.info? ty).map (·.size) = some cs.length) : YieldsIf P ops S op (.agg cs.toArray) a :=
  yieldsIf_load_mid (by simp [Region.wanted, hg]) ty x ho b o hx cs d hS hu hd hi
end
end Go.Proofs.YtmcfldcpmjdfbaaGreatDoor
