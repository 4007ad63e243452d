/-
  Walks over package leaf: Set, Del.
-/
import Derived.Test.YtpfifmjcmpankaaGreatMg23
import Derived.Test.YtpfifmjcmpankaaGreatMg24
namespace Go.Proofs.YtpfifmjcmpankaaGreat
open Go.RowKit Go.Lib

/-- What is left of a slice of items from place k on. -/
def lowV (A : Option Addr) (n c k : Nat) : Value := .slice (if c = k then A else A.map (·.add (k * 4))) (n - k) (c - k)
theorem Tryz.sizeItem (W : World) : (sizeOf (Tryz.prog.elem 22)).run Tryz.prog W = .ok 4 W := by kernel_rfl
set_option maxRecDepth 100000 in
theorem run_low (A : Option Addr) (n c k : Nat) (hk : k ≤ n) (W : World) : (Instr.slice 22 (.slice A n c) (some (.int .i64 k)) none none).run Tryz.prog W = .ok (lowV A n c k) W := by
  rw [run_slice_l W 22 A n c Tryz.underlying22 .i64 (k : Int) (by omega) (by omega), Tryz.sizeItem]
  simp [Result.andThen, sliced, lowV]
theorem add_zero (a : Addr) : a.add 0 = a := by simp [Addr.add]
set_option maxRecDepth 100000 in
theorem run_high (A : Option Addr) (n c k : Nat) (hk : k ≤ c) (W : World) : (Instr.slice 22 (.slice A n c) none (some (.int .i64 k)) none).run Tryz.prog W = .ok (.slice A k c) W := by
  rw [run_slice_h W 22 A n c Tryz.underlying22 .i64 (k : Int) (by omega) (by omega), Tryz.sizeItem]
  simp [Result.andThen, sliced, add_zero]
theorem reads_high {w : World} {B : Nat} {A : Option Addr} {c : Nat} {l : List Itm} (h : ReadsIt w B (.slice A l.length c) l) {k : Nat} (hk : k ≤ l.length) : ReadsIt w B (.slice A k c) (l.take k) := by
  cases A with
  | none =>
    obtain ⟨A', c', hv, hc, hm, hnil, _⟩ := h
    cases hv
    obtain ⟨rfl, rfl⟩ := hnil rfl
    obtain rfl : k = 0 := by simpa using hk
    exact ReadsIt.nil_ _ _
  | some a =>
    by_cases h0 : 0 < l.length
    · obtain ⟨A', c', hv, hc, hm, _, h'⟩ := h
      cases hv
      obtain ⟨b, off, hA, hlt, hi⟩ := h' h0
      cases hA
      exact ReadsIt.take ⟨_, _, rfl, hc, hm, fun e => (by cases e), fun _ => ⟨b, off, rfl, hlt, hi⟩⟩ hk
    · obtain rfl : l = [] := List.eq_nil_of_length_eq_zero (by omega)
      obtain rfl : k = 0 := by simpa using hk
      simpa using h
theorem reads_low {w : World} {B : Nat} {A : Option Addr} {c : Nat} {l : List Itm} (h : ReadsIt w B (.slice A l.length c) l) {k : Nat} (hk : k ≤ l.length) : ReadsIt w B (lowV A l.length c k) (l.drop k) := by
  have h' := h
  obtain ⟨A', c', hv, hc, hm, hnil, hr⟩ := h'
  cases hv
  unfold lowV
  by_cases hck : c = k
  · rw [if_pos hck]
    have e1 : l.drop k = [] := List.drop_eq_nil_of_le (by omega)
    have e2 : l.length - k = 0 := by omega
    have e3 : c - k = 0 := by omega
    rw [e1, e2, e3]
    exact ⟨A, 0, rfl, Nat.le_refl _, Nat.zero_le _, fun _ => ⟨rfl, rfl⟩, fun h => by simp at h⟩
  · rw [if_neg hck]
    cases A with
    | none =>
      obtain ⟨rfl, rfl⟩ := hnil rfl
      simp at hk
      omega
    | some a =>
      by_cases h0 : 0 < l.length
      · obtain ⟨b, off, hA, hlt, hi⟩ := hr h0
        cases hA
        show ReadsIt w B (.slice (some ((⟨b, off, none⟩ : Addr).add (k * 4))) (l.length - k) (c - k)) (l.drop k)
        rw [Go.WideShapes.add_plain]
        exact ReadsIt.drop ⟨_, _, rfl, hc, hm, fun e => (by cases e), fun _ => ⟨b, off, rfl, hlt, hi⟩⟩ hk
      · obtain rfl : l = [] := List.eq_nil_of_length_eq_zero (by omega)
        obtain rfl : k = 0 := by simpa using hk
        exact ⟨_, c, rfl, by simp, by omega, fun e => (by cases e), fun h => by simp at h⟩

/-- A block of slices reads as they do. -/
theorem reads_parts (w : World) (g : Nat) (t : TypeId) (P : List (Value × List Itm)) (h : Has w g t (P.map fun p => p.1).toArray) (hp : ∀ p ∈ P, ReadsIt w w.heap.size p.1 p.2) :
    Reads1 w w.heap.size (.slice (some ⟨g, 0, none⟩) P.length P.length) (P.map fun p => p.1) := by
  refine ⟨some ⟨g, 0, none⟩, P.length, by simp, fun _ => ⟨g, 0, rfl, h.inside, fun j u hu => ?_⟩⟩
  rw [Nat.zero_add, h.cell j]
  simpa using hu

theorem row_lower {w : World} {base base' : Nat} {e : TypeId} {size : Nat} {v : Value} {n : Nat} {xs : List Value} (h : w.ownsRow base e size v n xs) (hb : base' ≤ base) : w.ownsRow base' e size v n xs := by
  refine ⟨h.1, ?_⟩
  rcases h.2 with hn | ⟨g, cap, cur, rfl, h1, rest⟩
  · exact .inl hn
  · exact .inr ⟨g, cap, cur, rfl, Nat.le_trans hb h1, rest⟩
/-- What Set hands to copied: what stands ahead, the item, what stands behind. -/
theorem copy3 {w w1 : World} {l : List Itm} {x : Itm} {A : Option Addr} {c i k n : Nat} {v3 : Value} (hb : Below w.heap.size w w1) (h1 : ReadsIt w w.heap.size (.slice A i c) (l.take i)) (h2 : ReadsIt w w.heap.size (v3) (l.drop k))
    (hz : ∀ y ∈ x :: l, y.key.size ≤ 281474976710656 ∧ y.val.size ≤ 281474976710656) (hl : n ≤ 100000) (hn : l.length = n) :
    Calls Tryz.prog 71 #[.slice (some ⟨w1.heap.size + 1, 0, none⟩) 3 3] ((w1.alloc (iobj x)).alloc (.cells #[.slice A i c, .slice (some ⟨w1.heap.size, 0, none⟩) 1 1, v3] 22)).drew
      fun e w' => ∃ v', e = .returned v' ∧ w'.ownsRow w.heap.size 24 4 v' (l.take i ++ x :: l.drop k).length (ilist (l.take i ++ x :: l.drop k)) ∧ Below w1.heap.size w1 w' ∧ Below w.heap.size w w' := by
  obtain ⟨W, hW⟩ : ∃ W, W = ((w1.alloc (iobj x)).alloc (.cells #[.slice A i c, .slice (some ⟨w1.heap.size, 0, none⟩) 1 1, v3] 22)).drew := ⟨_, rfl⟩
  have hbW : Below w1.heap.size w1 W := by subst hW; exact (((Below.refl _ _).alloc (Nat.le_refl _) _).alloc (by simp) _).drew
  have hbw : Below w.heap.size w W := hb.trans (hbW.mono hb.size)
  have hx1 : ReadsIt W W.heap.size (.slice (some ⟨w1.heap.size, 0, none⟩) 1 1) [x] := by
    have h := ReadsIt.built w1 [x] (by unfold maxLen; simp)
    have h3 : Below (w1.heap.size + 1) (w1.alloc (iobj x)) W := by subst hW; exact ((Below.refl _ _).alloc (by simp) _).drew
    exact ReadsIt.grow (w := w1.alloc (iobj x)) (B := w1.heap.size + 1) h h3 (by subst hW; simp [World.drew])
  have hhas : Has W (w1.heap.size + 1) 22 #[.slice A i c, .slice (some ⟨w1.heap.size, 0, none⟩) 1 1, v3] := by
    subst hW
    have := Has.made (w1.alloc (iobj x)) 22 #[.slice A i c, .slice (some ⟨w1.heap.size, 0, none⟩) 1 1, v3]
    rw [World.size_alloc] at this
    exact this
  have hp : ∀ p ∈ [(Value.slice A i c, l.take i), (Value.slice (some ⟨w1.heap.size, 0, none⟩) 1 1, [x]), (v3, l.drop k)], ReadsIt W W.heap.size p.1 p.2 := by
    intro p hp
    simp at hp
    rcases hp with rfl | rfl | rfl
    · exact h1.grow hbw hbw.size
    · exact hx1
    · exact h2.grow hbw hbw.size
  have hflat : flatI [(Value.slice A i c, l.take i), (Value.slice (some ⟨w1.heap.size, 0, none⟩) 1 1, [x]), (v3, l.drop k)] = l.take i ++ x :: l.drop k := by simp [flatI]
  have h := copied_any _ _ W (reads_parts W _ _ _ hhas hp) hp (by rw [hflat]; simp; omega) (by simp) (by
    rw [hflat]
    intro y hy
    refine hz y ?_
    simp only [List.mem_append, List.mem_cons] at hy ⊢
    rcases hy with hy | hy | hy
    · exact .inr (List.mem_of_mem_take hy)
    · exact .inl hy
    · exact .inr (List.mem_of_mem_drop hy))
  rw [hflat] at h
  rw [← hW]
  refine h.mono ?_
  rintro e w' ⟨v', he, ho, hb'⟩
  exact ⟨v', he, row_lower ho hbw.size, hbW.trans (hb'.mono hbW.size), hbw.trans (hb'.mono hbw.size)⟩

set_option maxRecDepth 100000 in
set_option maxHeartbeats 1000000 in
theorem set_any (v : Value) (l : List Itm) (x : Itm) (w : World) (hr : ReadsIt w w.heap.size v l) (hrise : Rise l) (hl : l.length ≤ 100000) (hz : ∀ y ∈ x :: l, y.key.size ≤ 281474976710656 ∧ y.val.size ≤ 281474976710656) :
    Calls Tryz.prog 21 #[v, iagg x] w fun e w' => ∃ v', e = .returned v' ∧ w'.ownsRow w.heap.size 24 4 v' (setL l x).length (ilist (setL l x)) ∧ Below w.heap.size w w' := by
  obtain ⟨A, c, rfl⟩ := hr.form
  have hw0 : Below w.heap.size w (w.alloc (iobj x)) := (Below.refl _ _).alloc (Nat.le_refl _) _
  have hF := fun W hb => find_any (.slice A l.length c) l x.key W (hr.grow (w' := W) hb hb.size) hrise (by omega)
  have hlb := lb_le l x.key
  have hbe := behind_le l x.key
  have hc1 : l.length ≤ c := by obtain ⟨A', c', hv, hc, _⟩ := hr; cases hv; exact hc
  have hrH := run_high A l.length c (lb l x.key) (by omega)
  have hrL := run_low A l.length c (behind l x.key) hbe.1
  have h1 := reads_high hr hlb
  have h2 := reads_low hr hbe.1
  have HF := Lib.hid hF
  have HR := Lib.hid (And.intro h1 (And.intro h2 (And.intro hz (And.intro hl (And.intro hr hbe)))))
  have hbd : behind l x.key = lb l x.key + (if isAt l x.key = true then 1 else 0) := rfl
  clear hF h1 h2 hz hr
  cases hat : isAt l x.key
  · rw [hat] at hbd HF
    simp at hbd
    have HQ := Lib.hid (And.intro hrL (And.intro hrH hbd))
    generalize hn : l.length = n at *
    generalize hi : lb l x.key = i at *
    generalize hb : behind l x.key = k at *
    have HN := Lib.hid (And.intro hn (And.intro hi hb))
    have H0 := Lib.hid hw0
    clear hn hi hb hrL hrH hbe hlb hbd hat hw0
    go_enter Tryz.func21, Tryz.ntmps21
    go_wp2_with fail
    refine (HF.out _ H0.out).mono ?_
    rintro e w1 ⟨rfl, hb1⟩
    obtain ⟨c0, c1, c2, c3⟩ := box_cells (w := w) (w1 := w1) x (by simpa using hb1)
    have hbw : Below w.heap.size w w1 := H0.out.trans (hb1.mono H0.out.size)
    have H1 := Lib.hid hbw
    have hgs : w.heap.size + 1 ≤ w1.heap.size := by have := hb1.size; simpa using this
    clear hb1 hbw
    obtain ⟨hrL, hrH, hbd⟩ := HQ.out
    have hbd' := hbd.symm
    subst hbd'
    obtain ⟨A2, hA2⟩ : ∃ A2, lowV A n c i = .slice A2 (n - i) (c - i) := ⟨_, rfl⟩
    simp only [hA2] at hrL
    have HA2 := Lib.hid hA2
    clear hA2
    go_wp2_with fail
    have hbx : ∀ W, Below w1.heap.size w1 W → W.cell? ⟨w.heap.size, 0, none⟩ = some (.string x.key) ∧ W.cell? ⟨w.heap.size, 1, none⟩ = some (.string x.val) ∧ W.cell? ⟨w.heap.size, 2, none⟩ = some (.int .i64 x.over) ∧ W.cell? ⟨w.heap.size, 3, none⟩ = some (.int .i64 x.size) := fun W hb =>
      ⟨(hb.cell (p := ⟨w.heap.size, 0, none⟩) hgs).trans c0, (hb.cell (p := ⟨w.heap.size, 1, none⟩) hgs).trans c1, (hb.cell (p := ⟨w.heap.size, 2, none⟩) hgs).trans c2, (hb.cell (p := ⟨w.heap.size, 3, none⟩) hgs).trans c3⟩
    have HS := Lib.hid hbx
    have hcp := copy3 (w := w) (w1 := w1) (l := l) (x := x) (A := A) (c := c) (i := i) (k := i) H1.out HR.out.1 (HA2.out ▸ HR.out.2.1) HR.out.2.2.1 HR.out.2.2.2.1 HN.out.1 
    have HCP := Lib.hid hcp
    clear hcp hbx
    go_region_held3 (fun w' => w'.cell? ⟨w.heap.size, 0, none⟩ = some (.string x.key) ∧ w'.cell? ⟨w.heap.size, 1, none⟩ = some (.string x.val) ∧ w'.cell? ⟨w.heap.size, 2, none⟩ = some (.int .i64 x.over) ∧ w'.cell? ⟨w.heap.size, 3, none⟩ = some (.int .i64 x.size)) (exact HS.out _ (by first | exact (Below.refl _ _).drew | exact ((Below.refl _ _).drew).alloc (Nat.le_refl _) _ | exact (((Below.refl _ _).drew).alloc (Nat.le_refl _) _).alloc (by simp) _ | assumption)) (first
      | (go_at_call 71; ((with_reducible refine (HCP.out).mono ?_)); rintro e w4 ⟨v4, rfl, hown4, hb4, hb5⟩))
    go_wp2_with fail
    go_ret
    have e1 : setL l x = l.take i ++ x :: l.drop i := by unfold setL; rw [HN.out.2.1, HN.out.2.2]
    rw [e1]
    exact ⟨v4, rfl, hown4, hb5⟩
  · rw [hat] at hbd HF
    simp at hbd
    have HQ := Lib.hid (And.intro hrL (And.intro hrH hbd))
    generalize hn : l.length = n at *
    generalize hi : lb l x.key = i at *
    generalize hb : behind l x.key = k at *
    have HN := Lib.hid (And.intro hn (And.intro hi hb))
    have H0 := Lib.hid hw0
    clear hn hi hb hrL hrH hbe hlb hbd hat hw0
    go_enter Tryz.func21, Tryz.ntmps21
    go_wp2_with fail
    refine (HF.out _ H0.out).mono ?_
    rintro e w1 ⟨rfl, hb1⟩
    obtain ⟨c0, c1, c2, c3⟩ := box_cells (w := w) (w1 := w1) x (by simpa using hb1)
    have hbw : Below w.heap.size w w1 := H0.out.trans (hb1.mono H0.out.size)
    have H1 := Lib.hid hbw
    have hgs : w.heap.size + 1 ≤ w1.heap.size := by have := hb1.size; simpa using this
    clear hb1 hbw
    obtain ⟨hrL0, hrH, hbd⟩ := HQ.out
    subst hbd
    have hrL : ∀ W, (Instr.slice 22 (.slice A n c) (some (.int .i64 ((i : Int) + 1))) none none).run Tryz.prog W = .ok (lowV A n c (i + 1)) W := fun W => by have := hrL0 W; rwa [show (((i + 1 : Nat)) : Int) = (i : Int) + 1 by omega] at this
    clear hrL0
    obtain ⟨A2, hA2⟩ : ∃ A2, lowV A n c (i + 1) = .slice A2 (n - (i + 1)) (c - (i + 1)) := ⟨_, rfl⟩
    simp only [hA2] at hrL
    have HA2 := Lib.hid hA2
    clear hA2
    have hib : (i : Int) ≤ 100000 := by have := HR.out.2.2.2.1; have := HR.out.2.2.2.2.2.1; omega
    go_wp2_with fail
    have hbx : ∀ W, Below w1.heap.size w1 W → W.cell? ⟨w.heap.size, 0, none⟩ = some (.string x.key) ∧ W.cell? ⟨w.heap.size, 1, none⟩ = some (.string x.val) ∧ W.cell? ⟨w.heap.size, 2, none⟩ = some (.int .i64 x.over) ∧ W.cell? ⟨w.heap.size, 3, none⟩ = some (.int .i64 x.size) := fun W hb =>
      ⟨(hb.cell (p := ⟨w.heap.size, 0, none⟩) hgs).trans c0, (hb.cell (p := ⟨w.heap.size, 1, none⟩) hgs).trans c1, (hb.cell (p := ⟨w.heap.size, 2, none⟩) hgs).trans c2, (hb.cell (p := ⟨w.heap.size, 3, none⟩) hgs).trans c3⟩
    have HS := Lib.hid hbx
    have hcp := copy3 (w := w) (w1 := w1) (l := l) (x := x) (A := A) (c := c) (i := i) (k := (i + 1)) H1.out HR.out.1 (HA2.out ▸ HR.out.2.1) HR.out.2.2.1 HR.out.2.2.2.1 HN.out.1 
    have HCP := Lib.hid hcp
    clear hcp hbx
    go_region_held3 (fun w' => w'.cell? ⟨w.heap.size, 0, none⟩ = some (.string x.key) ∧ w'.cell? ⟨w.heap.size, 1, none⟩ = some (.string x.val) ∧ w'.cell? ⟨w.heap.size, 2, none⟩ = some (.int .i64 x.over) ∧ w'.cell? ⟨w.heap.size, 3, none⟩ = some (.int .i64 x.size)) (exact HS.out _ (by first | exact (Below.refl _ _).drew | exact ((Below.refl _ _).drew).alloc (Nat.le_refl _) _ | exact (((Below.refl _ _).drew).alloc (Nat.le_refl _) _).alloc (by simp) _ | assumption)) (first
      | (go_at_call 71; ((with_reducible refine (HCP.out).mono ?_)); rintro e w4 ⟨v4, rfl, hown4, hb4, hb5⟩))
    go_wp2_with fail
    go_ret
    have e1 : setL l x = l.take i ++ x :: l.drop (i + 1) := by unfold setL; rw [HN.out.2.1, HN.out.2.2]
    rw [e1]
    exact ⟨v4, rfl, hown4, hb5⟩
end Go.Proofs.YtpfifmjcmpankaaGreat
