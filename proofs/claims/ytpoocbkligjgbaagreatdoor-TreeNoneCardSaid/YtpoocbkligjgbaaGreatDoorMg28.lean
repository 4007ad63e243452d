/-
  Walks over package leaf: Set, Del. Walks over package leaf: Get. Walks over package leaf: Del, half, Split.
-/
import Derived.Test.YtpoocbkligjgbaaGreatDoorMg26
import Derived.Test.YtpoocbkligjgbaaGreatDoorMg27
import Derived.Test.YtpoocbkligjgbaaGreatDoorMg25
import Derived.Test.YtpoocbkligjgbaaGreatDoorMg23
import Derived.Deep.LoopGhost
namespace Go.Proofs.YtpoocbkligjgbaaGreatDoor
open Go.RowKit Go.Lib

/-- What is left of a slice of items from place k on. -/
def lowV (A : Option Addr) (n c k : Nat) : Value := .slice (if c = k then A else A.map (·.add (k * 4))) (n - k) (c - k)
theorem Tryz.sizeItem (W : World) : (sizeOf (Tryz.prog.elem 120)).run Tryz.prog W = .ok 4 W := by kernel_rfl
set_option maxRecDepth 100000 in
theorem run_low (A : Option Addr) (n c k : Nat) (hk : k ≤ n) (W : World) : (Instr.slice 120 (.slice A n c) (some (.int .i64 k)) none none).run Tryz.prog W = .ok (lowV A n c k) W := by
  rw [run_slice_l W 120 A n c Tryz.underlying120 .i64 (k : Int) (by omega) (by omega), Tryz.sizeItem]
  simp [Result.andThen, sliced, lowV]
theorem add_zero (a : Addr) : a.add 0 = a := by simp [Addr.add]
set_option maxRecDepth 100000 in
theorem run_high (A : Option Addr) (n c k : Nat) (hk : k ≤ c) (W : World) : (Instr.slice 120 (.slice A n c) none (some (.int .i64 k)) none).run Tryz.prog W = .ok (.slice A k c) W := by
  rw [run_slice_h W 120 A n c Tryz.underlying120 .i64 (k : Int) (by omega) (by omega), Tryz.sizeItem]
  simp [Result.andThen, sliced, add_zero]
theorem reads_high {w : World} {B : Nat} {A : Option Addr} {c : Nat} {l : List Itm} (h : ReadsIt w B (.slice A l.length c) l) {k : Nat} (hk : k ≤ l.length) : ReadsIt w B (.slice A k c) (l.take k) := by
  cases A with
  | none =>
    obtain ⟨A', c', hv, hc, hm, hnil, _⟩ := h
    cases hv
    obtain ⟨rfl, rfl⟩ := hnil rfl
    obtain rfl : k = 0 := by simpa using hk
    exact ReadsIt.nil_ _ _
  | some a =>
    by_cases h0 : 0 < l.length
    · obtain ⟨A', c', hv, hc, hm, _, h'⟩ := h
      cases hv
      obtain ⟨b, off, hA, hlt, hi⟩ := h' h0
      cases hA
      exact ReadsIt.take ⟨_, _, rfl, hc, hm, fun e => (by cases e), fun _ => ⟨b, off, rfl, hlt, hi⟩⟩ hk
    · obtain rfl : l = [] := List.eq_nil_of_length_eq_zero (by omega)
      obtain rfl : k = 0 := by simpa using hk
      simpa using h
theorem reads_low {w : World} {B : Nat} {A : Option Addr} {c : Nat} {l : List Itm} (h : ReadsIt w B (.slice A l.length c) l) {k : Nat} (hk : k ≤ l.length) : ReadsIt w B (lowV A l.length c k) (l.drop k) := by
  have h' := h
  obtain ⟨A', c', hv, hc, hm, hnil, hr⟩ := h'
  cases hv
  unfold lowV
  by_cases hck : c = k
  · rw [if_pos hck]
    have e1 : l.drop k = [] := List.drop_eq_nil_of_le (by omega)
    have e2 : l.length - k = 0 := by omega
    have e3 : c - k = 0 := by omega
    rw [e1, e2, e3]
    exact ⟨A, 0, rfl, Nat.le_refl _, Nat.zero_le _, fun _ => ⟨rfl, rfl⟩, fun h => by simp at h⟩
  · rw [if_neg hck]
    cases A with
    | none =>
      obtain ⟨rfl, rfl⟩ := hnil rfl
      simp at hk
      omega
    | some a =>
      by_cases h0 : 0 < l.length
      · obtain ⟨b, off, hA, hlt, hi⟩ := hr h0
        cases hA
        show ReadsIt w B (.slice (some ((⟨b, off, none⟩ : Addr).add (k * 4))) (l.length - k) (c - k)) (l.drop k)
        rw [Go.WideShapes.add_plain]
        exact ReadsIt.drop ⟨_, _, rfl, hc, hm, fun e => (by cases e), fun _ => ⟨b, off, rfl, hlt, hi⟩⟩ hk
      · obtain rfl : l = [] := List.eq_nil_of_length_eq_zero (by omega)
        obtain rfl : k = 0 := by simpa using hk
        exact ⟨_, c, rfl, by simp, by omega, fun e => (by cases e), fun h => by simp at h⟩

/-- A block of slices reads as they do. -/
theorem reads_parts (w : World) (g : Nat) (t : TypeId) (P : List (Value × List Itm)) (h : Has w g t (P.map fun p => p.1).toArray) (hp : ∀ p ∈ P, ReadsIt w w.heap.size p.1 p.2) :
    Reads1 w w.heap.size (.slice (some ⟨g, 0, none⟩) P.length P.length) (P.map fun p => p.1) := by
  refine ⟨some ⟨g, 0, none⟩, P.length, by simp, fun _ => ⟨g, 0, rfl, h.inside, fun j u hu => ?_⟩⟩
  rw [Nat.zero_add, h.cell j]
  simpa using hu

theorem row_lower {w : World} {base base' : Nat} {e : TypeId} {size : Nat} {v : Value} {n : Nat} {xs : List Value} (h : w.ownsRow base e size v n xs) (hb : base' ≤ base) : w.ownsRow base' e size v n xs := by
  refine ⟨h.1, ?_⟩
  rcases h.2 with hn | ⟨g, cap, cur, rfl, h1, rest⟩
  · exact .inl hn
  · exact .inr ⟨g, cap, cur, rfl, Nat.le_trans hb h1, rest⟩
/-- What Set hands to copied: what stands ahead, the item, what stands behind. -/
theorem copy3 {w w1 : World} {l : List Itm} {x : Itm} {A : Option Addr} {c i k n : Nat} {v3 : Value} (hb : Below w.heap.size w w1) (h1 : ReadsIt w w.heap.size (.slice A i c) (l.take i)) (h2 : ReadsIt w w.heap.size (v3) (l.drop k))
    (hz : ∀ y ∈ x :: l, y.key.size ≤ 281474976710656 ∧ y.val.size ≤ 281474976710656) (hl : n ≤ 100000) (hn : l.length = n) :
    Calls Tryz.prog 136 #[.slice (some ⟨w1.heap.size + 1, 0, none⟩) 3 3] ((w1.alloc (iobj x)).alloc (.cells #[.slice A i c, .slice (some ⟨w1.heap.size, 0, none⟩) 1 1, v3] 120)).drew
      fun e w' => ∃ v', e = .returned v' ∧ w'.ownsRow w.heap.size 126 4 v' (l.take i ++ x :: l.drop k).length (ilist (l.take i ++ x :: l.drop k)) ∧ Below w1.heap.size w1 w' ∧ Below w.heap.size w w' := by
  obtain ⟨W, hW⟩ : ∃ W, W = ((w1.alloc (iobj x)).alloc (.cells #[.slice A i c, .slice (some ⟨w1.heap.size, 0, none⟩) 1 1, v3] 120)).drew := ⟨_, rfl⟩
  have hbW : Below w1.heap.size w1 W := by subst hW; exact (((Below.refl _ _).alloc (Nat.le_refl _) _).alloc (by simp) _).drew
  have hbw : Below w.heap.size w W := hb.trans (hbW.mono hb.size)
  have hx1 : ReadsIt W W.heap.size (.slice (some ⟨w1.heap.size, 0, none⟩) 1 1) [x] := by
    have h := ReadsIt.built w1 [x] (by unfold maxLen; simp)
    have h3 : Below (w1.heap.size + 1) (w1.alloc (iobj x)) W := by subst hW; exact ((Below.refl _ _).alloc (by simp) _).drew
    exact ReadsIt.grow (w := w1.alloc (iobj x)) (B := w1.heap.size + 1) h h3 (by subst hW; simp [World.drew])
  have hhas : Has W (w1.heap.size + 1) 120 #[.slice A i c, .slice (some ⟨w1.heap.size, 0, none⟩) 1 1, v3] := by
    subst hW
    have := Has.made (w1.alloc (iobj x)) 120 #[.slice A i c, .slice (some ⟨w1.heap.size, 0, none⟩) 1 1, v3]
    rw [World.size_alloc] at this
    exact this
  have hp : ∀ p ∈ [(Value.slice A i c, l.take i), (Value.slice (some ⟨w1.heap.size, 0, none⟩) 1 1, [x]), (v3, l.drop k)], ReadsIt W W.heap.size p.1 p.2 := by
    intro p hp
    simp at hp
    rcases hp with rfl | rfl | rfl
    · exact h1.grow hbw hbw.size
    · exact hx1
    · exact h2.grow hbw hbw.size
  have hflat : flatI [(Value.slice A i c, l.take i), (Value.slice (some ⟨w1.heap.size, 0, none⟩) 1 1, [x]), (v3, l.drop k)] = l.take i ++ x :: l.drop k := by simp [flatI]
  have h := copied_any _ _ W (reads_parts W _ _ _ hhas hp) hp (by rw [hflat]; simp; omega) (by simp) (by
    rw [hflat]
    intro y hy
    refine hz y ?_
    simp only [List.mem_append, List.mem_cons] at hy ⊢
    rcases hy with hy | hy | hy
    · exact .inr (List.mem_of_mem_take hy)
    · exact .inl hy
    · exact .inr (List.mem_of_mem_drop hy))
  rw [hflat] at h
  rw [← hW]
  refine h.mono ?_
  rintro e w' ⟨v', he, ho, hb'⟩
  exact ⟨v', he, row_lower ho hbw.size, hbW.trans (hb'.mono hbW.size), hbw.trans (hb'.mono hbw.size)⟩

set_option maxRecDepth 100000 in
set_option maxHeartbeats 1000000 in
theorem set_any (v : Value) (l : List Itm) (x : Itm) (w : World) (hr : ReadsIt w w.heap.size v l) (hrise : Rise l) (hl : l.length ≤ 100000) (hz : ∀ y ∈ x :: l, y.key.size ≤ 281474976710656 ∧ y.val.size ≤ 281474976710656) :
    Calls Tryz.prog 89 #[v, iagg x] w fun e w' => ∃ v', e = .returned v' ∧ w'.ownsRow w.heap.size 126 4 v' (setL l x).length (ilist (setL l x)) ∧ Below w.heap.size w w' := by
  obtain ⟨A, c, rfl⟩ := hr.form
  have hw0 : Below w.heap.size w (w.alloc (iobj x)) := (Below.refl _ _).alloc (Nat.le_refl _) _
  have hF := fun W hb => find_any (.slice A l.length c) l x.key W (hr.grow (w' := W) hb hb.size) hrise (by omega)
  have hlb := lb_le l x.key
  have hbe := behind_le l x.key
  have hc1 : l.length ≤ c := by obtain ⟨A', c', hv, hc, _⟩ := hr; cases hv; exact hc
  have hrH := run_high A l.length c (lb l x.key) (by omega)
  have hrL := run_low A l.length c (behind l x.key) hbe.1
  have h1 := reads_high hr hlb
  have h2 := reads_low hr hbe.1
  have HF := Lib.hid hF
  have HR := Lib.hid (And.intro h1 (And.intro h2 (And.intro hz (And.intro hl (And.intro hr hbe)))))
  have hbd : behind l x.key = lb l x.key + (if isAt l x.key = true then 1 else 0) := rfl
  clear hF h1 h2 hz hr
  cases hat : isAt l x.key
  · rw [hat] at hbd HF
    simp at hbd
    have HQ := Lib.hid (And.intro hrL (And.intro hrH hbd))
    generalize hn : l.length = n at *
    generalize hi : lb l x.key = i at *
    generalize hb : behind l x.key = k at *
    have HN := Lib.hid (And.intro hn (And.intro hi hb))
    have H0 := Lib.hid hw0
    clear hn hi hb hrL hrH hbe hlb hbd hat hw0
    go_enter Tryz.func89, Tryz.ntmps89
    go_wp2_with fail
    refine (HF.out _ H0.out).mono ?_
    rintro e w1 ⟨rfl, hb1⟩
    obtain ⟨c0, c1, c2, c3⟩ := box_cells (w := w) (w1 := w1) x (by simpa using hb1)
    have hbw : Below w.heap.size w w1 := H0.out.trans (hb1.mono H0.out.size)
    have H1 := Lib.hid hbw
    have hgs : w.heap.size + 1 ≤ w1.heap.size := by have := hb1.size; simpa using this
    clear hb1 hbw
    obtain ⟨hrL, hrH, hbd⟩ := HQ.out
    have hbd' := hbd.symm
    subst hbd'
    obtain ⟨A2, hA2⟩ : ∃ A2, lowV A n c i = .slice A2 (n - i) (c - i) := ⟨_, rfl⟩
    simp only [hA2] at hrL
    have HA2 := Lib.hid hA2
    clear hA2
    go_wp2_with fail
    have hbx : ∀ W, Below w1.heap.size w1 W → W.cell? ⟨w.heap.size, 0, none⟩ = some (.string x.key) ∧ W.cell? ⟨w.heap.size, 1, none⟩ = some (.string x.val) ∧ W.cell? ⟨w.heap.size, 2, none⟩ = some (.int .i64 x.over) ∧ W.cell? ⟨w.heap.size, 3, none⟩ = some (.int .i64 x.size) := fun W hb =>
      ⟨(hb.cell (p := ⟨w.heap.size, 0, none⟩) hgs).trans c0, (hb.cell (p := ⟨w.heap.size, 1, none⟩) hgs).trans c1, (hb.cell (p := ⟨w.heap.size, 2, none⟩) hgs).trans c2, (hb.cell (p := ⟨w.heap.size, 3, none⟩) hgs).trans c3⟩
    have HS := Lib.hid hbx
    have hcp := copy3 (w := w) (w1 := w1) (l := l) (x := x) (A := A) (c := c) (i := i) (k := i) H1.out HR.out.1 (HA2.out ▸ HR.out.2.1) HR.out.2.2.1 HR.out.2.2.2.1 HN.out.1 
    have HCP := Lib.hid hcp
    clear hcp hbx
    go_region_held3 (fun w' => w'.cell? ⟨w.heap.size, 0, none⟩ = some (.string x.key) ∧ w'.cell? ⟨w.heap.size, 1, none⟩ = some (.string x.val) ∧ w'.cell? ⟨w.heap.size, 2, none⟩ = some (.int .i64 x.over) ∧ w'.cell? ⟨w.heap.size, 3, none⟩ = some (.int .i64 x.size)) (exact HS.out _ (by first | exact (Below.refl _ _).drew | exact ((Below.refl _ _).drew).alloc (Nat.le_refl _) _ | exact (((Below.refl _ _).drew).alloc (Nat.le_refl _) _).alloc (by simp) _ | assumption)) (first
      | (go_at_call 136; ((with_reducible refine (HCP.out).mono ?_)); rintro e w4 ⟨v4, rfl, hown4, hb4, hb5⟩))
    go_wp2_with fail
    go_ret
    have e1 : setL l x = l.take i ++ x :: l.drop i := by unfold setL; rw [HN.out.2.1, HN.out.2.2]
    rw [e1]
    exact ⟨v4, rfl, hown4, hb5⟩
  · rw [hat] at hbd HF
    simp at hbd
    have HQ := Lib.hid (And.intro hrL (And.intro hrH hbd))
    generalize hn : l.length = n at *
    generalize hi : lb l x.key = i at *
    generalize hb : behind l x.key = k at *
    have HN := Lib.hid (And.intro hn (And.intro hi hb))
    have H0 := Lib.hid hw0
    clear hn hi hb hrL hrH hbe hlb hbd hat hw0
    go_enter Tryz.func89, Tryz.ntmps89
    go_wp2_with fail
    refine (HF.out _ H0.out).mono ?_
    rintro e w1 ⟨rfl, hb1⟩
    obtain ⟨c0, c1, c2, c3⟩ := box_cells (w := w) (w1 := w1) x (by simpa using hb1)
    have hbw : Below w.heap.size w w1 := H0.out.trans (hb1.mono H0.out.size)
    have H1 := Lib.hid hbw
    have hgs : w.heap.size + 1 ≤ w1.heap.size := by have := hb1.size; simpa using this
    clear hb1 hbw
    obtain ⟨hrL0, hrH, hbd⟩ := HQ.out
    subst hbd
    have hrL : ∀ W, (Instr.slice 120 (.slice A n c) (some (.int .i64 ((i : Int) + 1))) none none).run Tryz.prog W = .ok (lowV A n c (i + 1)) W := fun W => by have := hrL0 W; rwa [show (((i + 1 : Nat)) : Int) = (i : Int) + 1 by omega] at this
    clear hrL0
    obtain ⟨A2, hA2⟩ : ∃ A2, lowV A n c (i + 1) = .slice A2 (n - (i + 1)) (c - (i + 1)) := ⟨_, rfl⟩
    simp only [hA2] at hrL
    have HA2 := Lib.hid hA2
    clear hA2
    have hib : (i : Int) ≤ 100000 := by have := HR.out.2.2.2.1; have := HR.out.2.2.2.2.2.1; omega
    go_wp2_with fail
    have hbx : ∀ W, Below w1.heap.size w1 W → W.cell? ⟨w.heap.size, 0, none⟩ = some (.string x.key) ∧ W.cell? ⟨w.heap.size, 1, none⟩ = some (.string x.val) ∧ W.cell? ⟨w.heap.size, 2, none⟩ = some (.int .i64 x.over) ∧ W.cell? ⟨w.heap.size, 3, none⟩ = some (.int .i64 x.size) := fun W hb =>
      ⟨(hb.cell (p := ⟨w.heap.size, 0, none⟩) hgs).trans c0, (hb.cell (p := ⟨w.heap.size, 1, none⟩) hgs).trans c1, (hb.cell (p := ⟨w.heap.size, 2, none⟩) hgs).trans c2, (hb.cell (p := ⟨w.heap.size, 3, none⟩) hgs).trans c3⟩
    have HS := Lib.hid hbx
    have hcp := copy3 (w := w) (w1 := w1) (l := l) (x := x) (A := A) (c := c) (i := i) (k := (i + 1)) H1.out HR.out.1 (HA2.out ▸ HR.out.2.1) HR.out.2.2.1 HR.out.2.2.2.1 HN.out.1 
    have HCP := Lib.hid hcp
    clear hcp hbx
    go_region_held3 (fun w' => w'.cell? ⟨w.heap.size, 0, none⟩ = some (.string x.key) ∧ w'.cell? ⟨w.heap.size, 1, none⟩ = some (.string x.val) ∧ w'.cell? ⟨w.heap.size, 2, none⟩ = some (.int .i64 x.over) ∧ w'.cell? ⟨w.heap.size, 3, none⟩ = some (.int .i64 x.size)) (exact HS.out _ (by first | exact (Below.refl _ _).drew | exact ((Below.refl _ _).drew).alloc (Nat.le_refl _) _ | exact (((Below.refl _ _).drew).alloc (Nat.le_refl _) _).alloc (by simp) _ | assumption)) (first
      | (go_at_call 136; ((with_reducible refine (HCP.out).mono ?_)); rintro e w4 ⟨v4, rfl, hown4, hb4, hb5⟩))
    go_wp2_with fail
    go_ret
    have e1 : setL l x = l.take i ++ x :: l.drop (i + 1) := by unfold setL; rw [HN.out.2.1, HN.out.2.2]
    rw [e1]
    exact ⟨v4, rfl, hown4, hb5⟩
end Go.Proofs.YtpoocbkligjgbaaGreatDoor

namespace Go.Proofs.YtpoocbkligjgbaaGreatDoor
open Go.RowKit Go.Lib

theorem rvar_short {l : List UInt8} (h : (rvar l).2.2 = 0) : (rvar l).2.1.length < l.length := by
  unfold rvar at h ⊢
  rcases gscan_err l 0 0 with ⟨h0, h1⟩ | h4 | h5
  · rw [if_pos h0] at h ⊢
    have h2 := gscan_n_le l 0 0
    simp only [List.length_drop]
    omega
  · rw [h4] at h; simp at h
  · rw [h5] at h; simp at h
theorem rtext_short {most : Int} {l : List UInt8} (h : (rtext most l).2.2 = 0) : (rtext most l).2.1.length < l.length := by
  have hc : (rcount most l).2.2 = 0 ∧ (rtext most l).2.1.length ≤ (rcount most l).2.1.length := by
    unfold rtext at h ⊢
    by_cases h1 : (rcount most l).2.2 = 0
    · refine ⟨h1, ?_⟩
      rw [if_neg (by simpa using h1)]
      split
      · exact Nat.le_refl _
      · simp only [List.length_drop]; omega
    · rw [if_pos h1] at h
      exact absurd h h1
  have hv : (rcount most l).2.1 = (rvar l).2.1 ∧ (rvar l).2.2 = 0 := by
    have h1 := hc.1
    unfold rcount at h1 ⊢
    by_cases h2 : (rvar l).2.2 = 0
    · rw [if_neg (by simpa using h2)] at h1 ⊢
      refine ⟨?_, h2⟩
      split
      · rfl
      · split
        · rfl
        · rfl
    · rw [if_pos h2] at h1
      exact absurd h1 h2
  have := rvar_short hv.2
  rw [← hv.1] at this
  omega
theorem getItem_short {b : List UInt8} (h : (getItem b).2.2 = 0) : (getItem b).2.1.length < b.length := by
  unfold getItem at h ⊢
  by_cases h1 : (rtext 40 b).2.2 = 0
  · have k1 := rtext_short h1
    simp only [ne_eq, h1, not_true, if_false] at h ⊢
    have k2 := rbool_rest (rtext 40 b).2.1
    split at h
    · rename_i h2; exact absurd h h2
    · rename_i h2
      rw [if_neg h2]
      split at h
      · rename_i h3
        rw [if_pos h3]
        have k3 := rvar_rest (rbool (rtext 40 b).2.1).2.1
        split at h
        · rename_i h4; exact absurd h h4
        · rename_i h4
          rw [if_neg h4]
          have k4 := rvar_rest (rvar (rbool (rtext 40 b).2.1).2.1).2.1
          simp only
          omega
      · rename_i h3
        rw [if_neg h3]
        have k5 := rtext_rest 60 (rbool (rtext 40 b).2.1).2.1
        simp only
        omega
  · simp only [ne_eq, h1, not_false_eq_true, if_true] at h

/-- Where Get stands: it has read the items l, the bytes rest are left. -/
structure GetInv (s : List UInt8) (l : List Itm) (rest : List UInt8) : Prop where
  len : l.length + rest.length ≤ s.length
  all : ∀ L, (∀ x ∈ L, rightB x = true) → leafB L = s → l.length ≤ L.length ∧ L.take l.length = l ∧ leafB (L.drop l.length) = rest
theorem leafB_ne {x : Itm} {L : List Itm} (h : rightB x = true) : leafB (x :: L) ≠ [] := by
  have h1 := (right_len h).2
  intro e
  have := congrArg List.length e
  simp only [leafB, List.flatMap_cons, List.length_append, List.length_nil] at this
  omega
theorem GetInv.start (s : List UInt8) : GetInv s [] s := ⟨by simp, fun L _ h => ⟨by simp, by simp, by simpa using h⟩⟩
theorem GetInv.head {s rest : List UInt8} {l L : List Itm} (h : GetInv s l rest) (hne : rest ≠ []) (hL : ∀ x ∈ L, rightB x = true) (hs : leafB L = s) : ∃ hlt : l.length < L.length, getItem rest = (L[l.length], leafB (L.drop (l.length + 1)), 0) := by
  obtain ⟨h1, h2, h3⟩ := h.all L hL hs
  by_cases hlt : l.length < L.length
  · refine ⟨hlt, ?_⟩
    rw [List.drop_eq_getElem_cons hlt] at h3
    have e : leafB (L[l.length] :: L.drop (l.length + 1)) = itemB L[l.length] ++ leafB (L.drop (l.length + 1)) := by show List.flatMap _ _ = _; rw [List.flatMap_cons]; rfl
    rw [← h3, e]
    exact getItem_laid (hL _ (List.getElem_mem hlt)) _
  · rw [List.drop_eq_nil_of_le (by omega)] at h3
    exact absurd h3.symm hne
theorem GetInv.step {s rest : List UInt8} {l : List Itm} (h : GetInv s l rest) (hne : rest ≠ []) (he : (getItem rest).2.2 = 0) : GetInv s (l ++ [(getItem rest).1]) (getItem rest).2.1 := by
  have hsh := getItem_short he
  refine ⟨by have := h.len; simp; omega, fun L hL hs => ?_⟩
  obtain ⟨hlt, hg⟩ := h.head hne hL hs
  obtain ⟨h1, h2, h3⟩ := h.all L hL hs
  rw [hg]
  simp only [List.length_append, List.length_singleton]
  refine ⟨hlt, ?_, trivial⟩
  rw [List.take_succ_eq_append_getElem hlt, h2]
theorem GetInv.none {s rest : List UInt8} {l : List Itm} (h : GetInv s l rest) (hne : rest ≠ []) (he : (getItem rest).2.2 ≠ 0) : ∀ L, ¬ IsLeaf s L := by
  rintro L ⟨hok, _, hs⟩
  obtain ⟨_, hg⟩ := h.head hne hok.1 hs
  rw [hg] at he
  exact he rfl
theorem GetInv.done {s : List UInt8} {l L : List Itm} (h : GetInv s l []) (hL : IsLeaf s L) : L = l := by
  obtain ⟨hok, _, hs⟩ := hL
  obtain ⟨h1, h2, h3⟩ := h.all L hok.1 hs
  have h4 : L.drop l.length = [] := by
    cases hd : L.drop l.length with
    | nil => rfl
    | cons x r =>
      rw [hd] at h3
      exact absurd h3 (leafB_ne (hok.1 x (List.mem_of_mem_drop (i := l.length) (by rw [hd]; simp))))
  have h5 : L.take l.length ++ L.drop l.length = l ++ [] := by rw [h2, h4]
  simpa using h5

/-- What Get comes to. -/
def GetTo8 (w : World) (s : List UInt8) (e : Ending) (w' : World) : Prop :=
  ∃ v, (∃ l, e = .returned (.tuple #[v, .int .i64 0]) ∧ IsLeaf s l ∧ w'.ownsRow w.heap.size 126 4 v l.length (ilist l) ∧ Below w.heap.size w w') ∨ (e = .returned (.tuple #[v, .int .i64 4]) ∧ v = .slice none 0 0 ∧ (∀ l, ¬ IsLeaf s l) ∧ Below w.heap.size w w')

set_option maxRecDepth 100000 in
set_option maxHeartbeats 2000000 in
theorem get_any8 (s : ByteArray) (w : World) (hs : s.size ≤ 9223372036854775807) : Calls Tryz.prog 222 #[.string s] w (GetTo8 w s.data.toList) := by
  have hsl : s.data.toList.length = s.size := by simp
  by_cases h240 : s.size ≤ 240
  · have hnew := rdnew_any s w hs
    have hs1 : (s.size : Int) ≤ 240 := by omega
    go_enter Tryz.func222, Tryz.ntmps222
    go_wp2_with fail
    refine hnew.mono ?_
    rintro e w1 ⟨rfl, hrd, hb1⟩
    obtain ⟨p, hp⟩ : ∃ p, w.heap.size = p := ⟨_, rfl⟩
    rw [hp] at hrd hb1 ⊢
    have HP := Lib.hid (And.intro hp (And.intro hrd hb1))
    clear hp hrd hb1 hnew
    go_wp2_with fail
    go_loopg [4] s.size (fun g lv wr => ∃ l rest, g = rest.length ∧ Rd wr p rest 0 ∧ wr.ownsRow (p + 1) 126 4 lv l.length (ilist l) ∧ GetInv s.data.toList l rest ∧ Below p w wr)
    case atStart => exact ⟨[], s.data.toList, hsl.symm, HP.out.2.1, World.ownsRow_nil _ _ _ _, GetInv.start _, HP.out.2.2⟩
    case round =>
      obtain ⟨l, rest, hg, hrd, hown, hinv, hbl⟩ := hrel
      have hen := end_any p rest 0 wr hrd
      have hlen := hinv.len
      by_cases hne : rest = []
      · subst hne
        have he0 : endOf [] 0 = 0 := rfl
        have hpw : p ≤ wr.heap.size := Nat.le_of_lt hrd.inside
        rw [he0] at hen
        have hll : l.length ≤ 240 := by simp at hlen; omega
        have hri := row_readsIt (row_lower hown (base' := 0) (Nat.zero_le _))
        have hpu := lfput_any u4 l wr hri (by omega)
        have hrow := row_lower hown (base' := p) (by omega)
        obtain ⟨A, c, hA⟩ := hri.form
        subst hA
        by_cases hyes : putE l = 0 ∧ putB l = s.data.toList
        · obtain ⟨y1, y2⟩ := hyes
          have hst : (⟨s.data.toList.toArray⟩ : ByteArray) = s := by simp
          rw [y1, y2, hst] at hpu
          have hok : OKL l ∧ sz l ≤ 240 := by
            unfold putE at y1
            split at y1
            · rename_i h1
              split at y1
              · rename_i h2; exact ⟨h1, h2⟩
              · simp at y1
            · simp at y1
          have hleaf : IsLeaf s.data.toList l := ⟨hok.1, hok.2, by unfold putB at y2; rwa [if_pos hok] at y2⟩
          have HH := Lib.hid (And.intro hleaf (And.intro hrow hbl))
          clear hleaf hok y1 y2 hst hrow hbl hinv hown hri hlen hrd
          go_wp2_with fail
          refine hen.mono ?_
          rintro e w2 ⟨rfl, rfl⟩
          go_wp2_with fail
          refine hpu.mono ?_
          rintro e w3 ⟨rfl, hb3⟩
          have H3 := Lib.hid hb3
          clear hb3 hpu hen
          go_wp2_with fail
          go_ret2
          have hrow3 := row_kept (F := []) HH.out.2.1 (Kept.of_below H3.out) (fun _ _ h => by simp at h)
          exact ⟨.slice A l.length c, .inl ⟨l, rfl, HH.out.1, by rw [HP.out.1]; exact hrow3, by rw [HP.out.1]; exact HH.out.2.2.trans (H3.out.mono hpw)⟩⟩
        · have hno : ∀ L, ¬ IsLeaf s.data.toList L := by
            intro L hL
            obtain rfl := hinv.done hL
            obtain ⟨h1, h2, h3⟩ := hL
            refine hyes ⟨by unfold putE; rw [if_pos h1, if_pos h2], by unfold putB; rw [if_pos ⟨h1, h2⟩, h3]⟩
          by_cases hE : putE l = 0
          · have hts : ¬ ((⟨(putB l).toArray⟩ : ByteArray).toList = s.toList) := by
              intro h
              have h2 := congrArg (fun b : ByteArray => b.data.toList) (toList_inj h)
              simp only at h2
              exact hyes ⟨hE, by simpa using h2⟩
            rw [hE] at hpu
            have HH := Lib.hid (And.intro hno hbl)
            generalize (⟨(putB l).toArray⟩ : ByteArray) = t at *
            have htb : (t.toList == s.toList) = false := by simpa using hts
            clear hno hyes hrow hbl hinv hown hri hlen hE hrd hts
            go_wp2_with fail
            refine hen.mono ?_
            rintro e w2 ⟨rfl, rfl⟩
            go_wp2_with fail
            refine hpu.mono ?_
            rintro e w3 ⟨rfl, hb3⟩
            have H3 := Lib.hid hb3
            clear hb3 hpu hen
            go_wp2_with fail
            go_ret2
            exact ⟨_, .inr ⟨rfl, rfl, HH.out.1, by rw [HP.out.1]; exact HH.out.2.trans (H3.out.mono hpw)⟩⟩
          · have hEb : (putE l != 0) = true := by simpa using hE
            have HH := Lib.hid (And.intro hno hbl)
            generalize (⟨(putB l).toArray⟩ : ByteArray) = t at *
            generalize putE l = E at *
            clear hno hyes hrow hbl hinv hown hri hlen hE hrd
            go_wp2_with fail
            refine hen.mono ?_
            rintro e w2 ⟨rfl, rfl⟩
            go_wp2_with fail
            refine hpu.mono ?_
            rintro e w3 ⟨rfl, hb3⟩
            have H3 := Lib.hid hb3
            clear hb3 hpu hen
            go_wp2_with fail
            go_ret2
            exact ⟨_, .inr ⟨rfl, rfl, HH.out.1, by rw [HP.out.1]; exact HH.out.2.trans (H3.out.mono hpw)⟩⟩
      · have he4 : endOf rest 0 = 4 := by unfold endOf; rw [if_pos rfl, if_neg hne]
        rw [he4] at hen
        have hra := lread_any p rest wr hrd (by omega)
        have hin := hrd.inside
        cases hgi : getItem rest with
        | mk x r =>
        obtain ⟨r1, n1⟩ := r
        rw [hgi] at hra
        unfold ReadTo8 at hra
        simp only at hra
        have HH := Lib.hid (And.intro hown (And.intro hinv (And.intro hbl (And.intro hgi (And.intro hne hg)))))
        have hform : ∃ A c, u4 = .slice A l.length c := by
          obtain ⟨A, c, h⟩ := (row_readsIt (row_lower hown (base' := p + 1) (Nat.le_refl _))).form
          exact ⟨A, c, h⟩
        obtain ⟨A, c, hA⟩ := hform
        subst hA
        clear hown hinv hbl hgi hg hrd
        go_wp2_with fail
        refine hen.mono ?_
        rintro e w2 ⟨rfl, rfl⟩
        clear hen
        go_wp2_with fail
        refine hra.mono ?_
        rintro e w3 ⟨rfl, hrd3, hk3⟩
        have hown3 := row_kept HH.out.1 hk3 (fun g hg hin => by have := (HH.out.1.lt g hg).1; simp at hin; omega)
        have hp3 : p + 1 ≤ w3.heap.size := hrd3.inside
        have hrx : ReadsIt (w3.alloc (iobj x)) (w3.heap.size + 1) (.slice (some ⟨w3.heap.size, 0, none⟩) 1 1) [x] := ReadsIt.built w3 [x] (by unfold maxLen; simp)
        have hown3a := hown3.alloc (iobj x)
        have hpa : p + 1 ≤ (w3.alloc (iobj x)).heap.size := by simp; omega
        have hl1 : l.length + [x].length ≤ 1000000 := by simp; omega
        have H3 := Lib.hid (And.intro hrd3 hk3)
        clear hra hrd3 hk3 hown3
        go_wp2_with (at_builtin; refine append_its rfl _ _ rfl (p + 1) _ (.slice A l.length c) l rfl hown3a _ (.slice (some ⟨w3.heap.size, 0, none⟩) 1 1) rfl [x] hrx hl1 hpa ?_; intro v4 w4 hown4 hb4)
        have hrd4 : Rd w4 p r1 n1 := (H3.out.1.below ((Below.refl _ _).alloc (Nat.le_refl _) _) (by omega)).below hb4 (by omega)
        have hce : w4.cell? ⟨p, 1, none⟩ = some (.int .i64 n1) := by
          obtain ⟨s4, _, _, h4⟩ := hrd4
          exact h4.cell 1
        have her := err_at p n1 w4 hce
        have hk34 : Below p wr w4 := (H3.out.2.below (by omega) (by intro k hk; simp at hk; omega)).trans (((Below.refl p w3).alloc (by omega) _).trans (hb4.mono (by omega)))
        have H4 := Lib.hid (And.intro hown4 (And.intro hrd4 hk34))
        clear hown4 hb4 hrd4 hk34 hce
        obtain ⟨hown, hinv, hbl, hgi, hne', hg⟩ := HH.out
        by_cases hn1 : n1 = 0
        · subst hn1
          have hst := hinv.step hne' (by rw [hgi])
          have hsh := getItem_short (b := rest) (by rw [hgi])
          rw [hgi] at hst hsh
          simp only at hst hsh
          have HI := Lib.hid (And.intro hst (And.intro hsh hbl))
          clear hown hinv hbl hgi hne' hst hsh
          have hgH := Lib.hid hg
          clear hg
          go_wp2_with fail
          refine her.mono ?_
          rintro e w5 ⟨rfl, rfl⟩
          go_wp2_with fail
          go_roundg r1.length
          case measure => have := HI.out.2.1; have := hgH.out; omega
          case rel => exact ⟨l ++ [x], r1, rfl, H4.out.2.1, H4.out.1, HI.out.1, HI.out.2.2.trans H4.out.2.2⟩
        · have hno := hinv.none hne' (by rw [hgi]; exact hn1)
          have HI := Lib.hid (And.intro hno hbl)
          have hn1b : (n1 != 0) = true := by simpa using hn1
          clear hown hinv hbl hgi hne' hno hg
          go_wp2_with fail
          refine her.mono ?_
          rintro e w5 ⟨rfl, rfl⟩
          go_wp2_with fail
          go_ret2
          exact ⟨_, .inr ⟨rfl, rfl, HI.out.1, by rw [HP.out.1]; exact HI.out.2.trans H4.out.2.2⟩⟩
  · have hno : ∀ l, ¬ IsLeaf s.data.toList l := by
      rintro l ⟨_, h1, h2⟩
      unfold sz at h1
      rw [h2, hsl] at h1
      omega
    have h241 : (240 : Int) < s.size := by omega
    go_enter Tryz.func222, Tryz.ntmps222
    go_wp2_with fail
    go_ret2
    exact ⟨_, .inr ⟨rfl, rfl, hno, Below.refl _ _⟩⟩
end Go.Proofs.YtpoocbkligjgbaaGreatDoor

namespace Go.Proofs.YtpoocbkligjgbaaGreatDoor
open Go.RowKit Go.Lib

theorem bcell {W w1 : World} (hb : Below W.heap.size W w1) : ∀ b o, b < W.heap.size → w1.cell? ⟨b, o, none⟩ = W.cell? ⟨b, o, none⟩ :=
  fun b o h => hb.cell (p := ⟨b, o, none⟩) h
/-- copied, of one list, and of two. -/
theorem copy_one {W : World} {v : Value} {l : List Itm} {g : Nat} (hg : W.cell? ⟨g, 0, none⟩ = some v) (h : ReadsIt W W.heap.size v l) (hl : l.length ≤ 1000000) (hz : ∀ y ∈ l, y.key.size ≤ 281474976710656 ∧ y.val.size ≤ 281474976710656) :
    Calls Tryz.prog 136 #[.slice (some ⟨g, 0, none⟩) 1 1] W fun e w' => ∃ v', e = .returned v' ∧ w'.ownsRow W.heap.size 126 4 v' l.length (ilist l) ∧ Below W.heap.size W w' := by
  have hflat : flatI [(v, l)] = l := by simp [flatI]
  have hr : Reads1 W W.heap.size (.slice (some ⟨g, 0, none⟩) 1 1) ([(v, l)].map fun p => p.1) := by
    refine ⟨_, _, rfl, fun _ => ⟨g, 0, rfl, World.block_lt_of_cell? W _ hg, fun j u hu => ?_⟩⟩
    match j, hu with
    | 0, hu => simp at hu; subst hu; exact hg
    | j + 1, hu => simp at hu
  have hc := copied_any _ [(v, l)] W hr (by intro p hp; simp at hp; subst hp; exact h) (by rw [hflat]; exact hl) (by simp) (by rw [hflat]; exact hz)
  rw [hflat] at hc
  exact hc
theorem copy_two {W : World} {v v2 : Value} {l m : List Itm} {g : Nat} (hg : W.cell? ⟨g, 0, none⟩ = some v) (hg2 : W.cell? ⟨g, 1, none⟩ = some v2) (h : ReadsIt W W.heap.size v l) (h2 : ReadsIt W W.heap.size v2 m) (hl : (l ++ m).length ≤ 1000000) (hz : ∀ y ∈ l ++ m, y.key.size ≤ 281474976710656 ∧ y.val.size ≤ 281474976710656) :
    Calls Tryz.prog 136 #[.slice (some ⟨g, 0, none⟩) 2 2] W fun e w' => ∃ v', e = .returned v' ∧ w'.ownsRow W.heap.size 126 4 v' (l ++ m).length (ilist (l ++ m)) ∧ Below W.heap.size W w' := by
  have hflat : flatI [(v, l), (v2, m)] = l ++ m := by simp [flatI]
  have hr : Reads1 W W.heap.size (.slice (some ⟨g, 0, none⟩) 2 2) ([(v, l), (v2, m)].map fun p => p.1) := by
    refine ⟨_, _, rfl, fun _ => ⟨g, 0, rfl, World.block_lt_of_cell? W _ hg, fun j u hu => ?_⟩⟩
    match j, hu with
    | 0, hu => simp at hu; subst hu; exact hg
    | 1, hu => simp at hu; subst hu; exact hg2
    | j + 2, hu => simp at hu
  have hc := copied_any _ [(v, l), (v2, m)] W hr (by intro p hp; simp at hp; rcases hp with rfl | rfl; exact h; exact h2) (by rw [hflat]; exact hl) (by simp) (by rw [hflat]; exact hz)
  rw [hflat] at hc
  exact hc

set_option maxRecDepth 100000 in
set_option maxHeartbeats 1000000 in
theorem del_any (v : Value) (l : List Itm) (k : ByteArray) (w : World) (hr : ReadsIt w w.heap.size v l) (hrise : Rise l) (hl : l.length ≤ 100000) (hz : ∀ y ∈ l, y.key.size ≤ 281474976710656 ∧ y.val.size ≤ 281474976710656) :
    Calls Tryz.prog 92 #[v, .string k] w fun e w' => ∃ v', e = .returned v' ∧ w'.ownsRow w.heap.size 126 4 v' (delL l k).length (ilist (delL l k)) ∧ Below w.heap.size w w' := by
  obtain ⟨A, c, rfl⟩ := hr.form
  have hF := find_any (.slice A l.length c) l k w hr hrise (by omega)
  have hc1 : l.length ≤ c := by obtain ⟨A', c', hv, hc, _⟩ := hr; cases hv; exact hc
  cases hat : isAt l k
  · rw [hat] at hF
    have HC := Lib.hid (fun W g (hb : Below w.heap.size w W) hg => copy_one (W := W) (g := g) (v := .slice A l.length c) (l := l) hg (hr.grow hb hb.size) (by omega) hz)
    have e1 : delL l k = l := delL_none hat
    rw [e1]
    generalize hn : l.length = n at *
    generalize lb l k = i at *
    have HN := Lib.hid hn
    clear hn hr hz hrise e1
    go_enter Tryz.func92, Tryz.ntmps92
    go_wp2_with fail
    refine hF.mono ?_
    rintro e w1 ⟨rfl, hb1⟩
    clear hF
    go_wp2_with fail
    refine (HC.out _ _ (hb1.alloc hb1.size _) ?_).mono ?_
    · go_simp
    rintro e w2 ⟨v2, rfl, hown, hb2⟩
    go_wp2_with fail
    go_ret
    exact ⟨v2, rfl, row_lower hown (by have := hb1.size; simp; omega), (hb1.alloc hb1.size _).trans (hb2.mono (by have := hb1.size; simp; omega))⟩
  · rw [hat] at hF
    obtain ⟨hlt, hkey⟩ := isAt_iff.1 hat
    have h1 := reads_high hr (k := lb l k) (by omega)
    have h2 := reads_low hr (k := lb l k + 1) (by omega)
    have hrH := run_high A l.length c (lb l k) (by omega)
    have hrL0 := run_low A l.length c (lb l k + 1) (by omega)
    have e1 : delL l k = l.take (lb l k) ++ l.drop (lb l k + 1) := by unfold delL; rw [if_pos hat]
    rw [e1]
    obtain ⟨A2, hA2⟩ : ∃ A2, lowV A l.length c (lb l k + 1) = .slice A2 (l.length - (lb l k + 1)) (c - (lb l k + 1)) := ⟨_, rfl⟩
    simp only [hA2] at hrL0 h2
    have hrL : ∀ W, (Instr.slice 120 (.slice A l.length c) (some (.int .i64 ((lb l k : Int) + 1))) none none).run Tryz.prog W = .ok (.slice A2 (l.length - (lb l k + 1)) (c - (lb l k + 1))) W := fun W => by have := hrL0 W; rwa [show (((lb l k + 1 : Nat)) : Int) = (lb l k : Int) + 1 by omega] at this
    have hlb100 : (lb l k : Int) ≤ 100000 := by omega
    have HC := Lib.hid (fun W g (hb : Below w.heap.size w W) hg hg2 => copy_two (W := W) (g := g) hg hg2 (h1.grow hb hb.size) (h2.grow hb hb.size) (by simp; omega) (by
      intro y hy
      refine hz y ?_
      rcases List.mem_append.1 hy with hy | hy
      · exact List.mem_of_mem_take hy
      · exact List.mem_of_mem_drop hy))
    clear h1 h2 hrL0 hA2 e1 hat hkey
    generalize l.take (lb l k) ++ l.drop (lb l k + 1) = D at *
    generalize hn : l.length = n at *
    generalize hi : lb l k = i at *
    have HN := Lib.hid (And.intro hn hi)
    have hwi : IntKind.i64.wrap ((i : Int) + 1) = (i : Int) + 1 := by rw [IntKind.wrap_i64]; omega
    clear hn hi hr hz hrise
    go_enter Tryz.func92, Tryz.ntmps92
    go_wp2_with fail
    refine hF.mono ?_
    rintro e w1 ⟨rfl, hb1⟩
    clear hF
    go_wp2_with fail
    go_region_held3 (fun w' => True) (trivial) (first
      | (go_at_call 136; ((with_reducible refine (HC.out _ _ ?_ ?_ ?_).mono ?_)); (first | exact ((hb1.alloc hb1.size _)).drew | exact (hb1.alloc hb1.size _)); (go_simp); (go_simp); rintro e w4 ⟨v4, rfl, hown4, hb4⟩))
    go_wp2_with fail
    go_ret
    exact ⟨v4, rfl, row_lower hown4 (by have := hb1.size; simp [World.drew]; omega), (hb1.alloc hb1.size _).drew.trans (hb4.mono (by have := hb1.size; simp [World.drew]; omega))⟩



end Go.Proofs.YtpoocbkligjgbaaGreatDoor
