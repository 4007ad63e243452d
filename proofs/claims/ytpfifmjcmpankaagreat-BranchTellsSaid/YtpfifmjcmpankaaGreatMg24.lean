/-
  Walks over package branch: copied. Walks over package branch: Replace.
-/
import Derived.Test.YtpfifmjcmpankaaGreatMg21
import Derived.Test.YtpfifmjcmpankaaGreatMg23
namespace Go.Proofs.YtpfifmjcmpankaaGreat.BR
open Go.RowKit Go.Lib

theorem row_same {w : World} {base : Nat} {e : TypeId} {size g cap n : Nat} {xs : List Value} (h : w.ownsRow base e size (.slice (some ⟨g, 0, none⟩) n cap) n xs) {j : Nat} {u : Value} (hu : xs[j]? = some u) :
    (w.setCell ⟨g, j, none⟩ u).ownsRow base e size (.slice (some ⟨g, 0, none⟩) n cap) n xs := by
  have h1 := (h.stored j u).1
  have hj := (List.getElem?_eq_some_iff.1 hu)
  obtain ⟨hlt, e1⟩ := hj
  have e2 : xs.set j u = xs := by rw [← e1]; exact List.set_getElem_self hlt
  rw [e2] at h1
  exact h1

set_option maxRecDepth 100000 in
set_option maxHeartbeats 2000000 in
theorem copied_any (v : Value) (P : List (Value × List Chd)) (w : World) (hr : Reads1 w w.heap.size v (P.map fun p => p.1)) (hp : ∀ p ∈ P, ReadsIt w w.heap.size p.1 p.2) (hl : (flatI P).length ≤ 1000000) (hn : P.length ≤ 1000)
    (hz : ∀ x ∈ flatI P, x.key.size ≤ 281474976710656) :
    Calls Tryz.prog 121 #[v] w fun e w' => ∃ v', e = .returned v' ∧ w'.ownsRow w.heap.size 131 2 v' (flatI P).length (ilist (flatI P)) ∧ Below w.heap.size w w' := by
  have hcc := concat_any v P w hr hp hl hn
  obtain ⟨A, c, rfl, _⟩ := hr
  simp only [List.length_map] at hcc ⊢
  generalize flatI P = L at *
  obtain ⟨N, hN⟩ : ∃ N, L.length = N := ⟨_, rfl⟩
  rw [hN] at hcc hl ⊢
  have HN := Lib.hid (And.intro hN hz)
  clear hN hz hp
  go_enter Tryz.func121, Tryz.ntmps121
  go_wp2_with fail
  refine hcc.mono ?_
  rintro e w1 ⟨v1, rfl, hown1, hb1⟩
  have hform : ∃ A1 c1, v1 = .slice A1 N c1 := by
    rcases hown1.2 with ⟨rfl, rfl⟩ | ⟨g, cap, cur, rfl, _⟩
    · exact ⟨none, 0, rfl⟩
    · exact ⟨_, _, rfl⟩
  obtain ⟨A1, c1, rfl⟩ := hform
  have HO := Lib.hid (And.intro hown1 hb1)
  have hN1 : (N : Int) ≤ 1000000 := by omega
  clear hown1 hb1 hcc
  go_wp2_with fail
  go_loopw [9] (fun iv wr => ∃ k : Nat, k ≤ N ∧ iv = .int .i64 k ∧ wr.ownsRow w.heap.size 131 2 (.slice A1 N c1) N (ilist L) ∧ Below w.heap.size w wr) (fun iv _ => N - (RowKit.intOf iv).toNat)
  case atStart => exact ⟨0, Nat.zero_le _, rfl, HO.out.1, HO.out.2⟩
  case round =>
    obtain ⟨k, hk, rfl, hown, hbl⟩ := hrel
    have hbs := hbl.size
    by_cases hlt : k < N
    · have hkl : k < L.length := by rw [HN.out.1]; exact hlt
      have hg : ∃ g, A1 = some ⟨g, 0, none⟩ := by
        rcases hown.2 with ⟨_, h0⟩ | ⟨g, cap, cur, h, _⟩
        · omega
        · cases h; exact ⟨g, rfl⟩
      obtain ⟨g, rfl⟩ := hg
      have hx := HN.out.2 L[k] (by simp)
      have a0 : (ilist L)[k * 2]? = some (.string L[k].key) := ilist_at hkl 0 (by omega)
      have hk0 : (0 : Int) ≤ k := by omega
      have hkN : (k : Int) < N := by omega
      generalize L[k] = x at *
      have hc1 := fun W => tclone_any x.key hx W
      -- what is held of the row in every world where nothing that was there has turned
      have hS1 : ∀ W, Below wr.heap.size wr W → W.ownsRow w.heap.size 131 2 (.slice (some ⟨g, 0, none⟩) N c1) N (ilist L) := fun W hb => row_kept (F := []) hown (Kept.of_below hb) (fun _ _ h => by simp at h)
      have HS1 := Lib.hid hS1
      have HC := Lib.hid hc1
      have HA := Lib.hid a0
      have c0 : wr.cell? ⟨g, k * 2, none⟩ = some (.string x.key) := (hown.cellAt (k * 2) (by omega)).trans a0
      have HBL := Lib.hid (And.intro hown hbl)
      clear hc1 hS1 a0 hown hbl hx hkl
      go_wp2_with fail
      refine (HC.out _).mono ?_
      rintro e w2 ⟨rfl, hb2⟩
      have hown3 := HS1.out _ hb2
      have q0 : w2.cell? ⟨g, k * 2, none⟩ = some (.string x.key) := (hown3.cellAt (k * 2) (by omega)).trans HA.out
      have q1 := hown3.frozenAt (k * 2)
      have hown4 := row_same hown3 HA.out
      have HF := Lib.hid (And.intro hown4 (And.intro hb2 hown3))
      clear hown3 hown4 hb2 c0
      go_wp2_with fail
      obtain ⟨h5, h6, h7⟩ := HF.out
      have hgg := (h7.lt g rfl).1
      go_roundw
      case rel =>
        refine ⟨k + 1, by omega, by go_num, h5, ?_⟩
        have h8 : Below w.heap.size w w2 := HBL.out.2.trans (h6.mono hbs)
        exact h8.setCell (p := ⟨g, k * 2, none⟩) hgg _
      case measure => simp [RowKit.intOf]; omega
    · obtain rfl : k = N := by omega
      go_wp2_with fail
      go_ret
      exact ⟨_, rfl, hown, hbl⟩
end Go.Proofs.YtpfifmjcmpankaaGreat.BR

namespace Go.Proofs.YtpfifmjcmpankaaGreat.BR
open Go.RowKit Go.Lib

/-- What is left of a slice of items from place k on. -/
def lowV (A : Option Addr) (n c k : Nat) : Value := .slice (if c = k then A else A.map (·.add (k * 2))) (n - k) (c - k)
theorem Tryz.sizeChild (W : World) : (sizeOf (Tryz.prog.elem 60)).run Tryz.prog W = .ok 2 W := by kernel_rfl
set_option maxRecDepth 100000 in
theorem run_low (A : Option Addr) (n c k : Nat) (hk : k ≤ n) (W : World) : (Instr.slice 60 (.slice A n c) (some (.int .i64 k)) none none).run Tryz.prog W = .ok (lowV A n c k) W := by
  rw [run_slice_l W 60 A n c Tryz.underlying60 .i64 (k : Int) (by omega) (by omega), Tryz.sizeChild]
  simp [Result.andThen, sliced, lowV]
theorem add_zero (a : Addr) : a.add 0 = a := by simp [Addr.add]
set_option maxRecDepth 100000 in
theorem run_high (A : Option Addr) (n c k : Nat) (hk : k ≤ c) (W : World) : (Instr.slice 60 (.slice A n c) none (some (.int .i64 k)) none).run Tryz.prog W = .ok (.slice A k c) W := by
  rw [run_slice_h W 60 A n c Tryz.underlying60 .i64 (k : Int) (by omega) (by omega), Tryz.sizeChild]
  simp [Result.andThen, sliced, add_zero]
theorem reads_high {w : World} {B : Nat} {A : Option Addr} {c : Nat} {l : List Chd} (h : ReadsIt w B (.slice A l.length c) l) {k : Nat} (hk : k ≤ l.length) : ReadsIt w B (.slice A k c) (l.take k) := by
  cases A with
  | none =>
    obtain ⟨A', c', hv, hc, hm, hnil, _⟩ := h
    cases hv
    obtain ⟨rfl, rfl⟩ := hnil rfl
    obtain rfl : k = 0 := by simpa using hk
    exact ReadsIt.nil_ _ _
  | some a =>
    by_cases h0 : 0 < l.length
    · obtain ⟨A', c', hv, hc, hm, _, h'⟩ := h
      cases hv
      obtain ⟨b, off, hA, hlt, hi⟩ := h' h0
      cases hA
      exact ReadsIt.take ⟨_, _, rfl, hc, hm, fun e => (by cases e), fun _ => ⟨b, off, rfl, hlt, hi⟩⟩ hk
    · obtain rfl : l = [] := List.eq_nil_of_length_eq_zero (by omega)
      obtain rfl : k = 0 := by simpa using hk
      simpa using h
theorem reads_low {w : World} {B : Nat} {A : Option Addr} {c : Nat} {l : List Chd} (h : ReadsIt w B (.slice A l.length c) l) {k : Nat} (hk : k ≤ l.length) : ReadsIt w B (lowV A l.length c k) (l.drop k) := by
  have h' := h
  obtain ⟨A', c', hv, hc, hm, hnil, hr⟩ := h'
  cases hv
  unfold lowV
  by_cases hck : c = k
  · rw [if_pos hck]
    have e1 : l.drop k = [] := List.drop_eq_nil_of_le (by omega)
    have e2 : l.length - k = 0 := by omega
    have e3 : c - k = 0 := by omega
    rw [e1, e2, e3]
    exact ⟨A, 0, rfl, Nat.le_refl _, Nat.zero_le _, fun _ => ⟨rfl, rfl⟩, fun h => by simp at h⟩
  · rw [if_neg hck]
    cases A with
    | none =>
      obtain ⟨rfl, rfl⟩ := hnil rfl
      simp at hk
      omega
    | some a =>
      by_cases h0 : 0 < l.length
      · obtain ⟨b, off, hA, hlt, hi⟩ := hr h0
        cases hA
        show ReadsIt w B (.slice (some ((⟨b, off, none⟩ : Addr).add (k * 2))) (l.length - k) (c - k)) (l.drop k)
        rw [Go.WideShapes.add_plain]
        exact ReadsIt.drop ⟨_, _, rfl, hc, hm, fun e => (by cases e), fun _ => ⟨b, off, rfl, hlt, hi⟩⟩ hk
      · obtain rfl : l = [] := List.eq_nil_of_length_eq_zero (by omega)
        obtain rfl : k = 0 := by simpa using hk
        exact ⟨_, c, rfl, by simp, by omega, fun e => (by cases e), fun h => by simp at h⟩

/-- A block of slices reads as they do. -/
theorem reads_parts (w : World) (g : Nat) (t : TypeId) (P : List (Value × List Chd)) (h : Has w g t (P.map fun p => p.1).toArray) (hp : ∀ p ∈ P, ReadsIt w w.heap.size p.1 p.2) :
    Reads1 w w.heap.size (.slice (some ⟨g, 0, none⟩) P.length P.length) (P.map fun p => p.1) := by
  refine ⟨some ⟨g, 0, none⟩, P.length, by simp, fun _ => ⟨g, 0, rfl, h.inside, fun j u hu => ?_⟩⟩
  rw [Nat.zero_add, h.cell j]
  simpa using hu
theorem below_allocC {W0 W : World} (h : Below W0.heap.size W0 W) (o : Obj) : Below W0.heap.size W0 (W.alloc o) := h.alloc h.size o
/-- copied, of one list, and of two. -/
theorem copy_one {W : World} {v : Value} {l : List Chd} {g : Nat} (hg : W.cell? ⟨g, 0, none⟩ = some v) (h : ReadsIt W W.heap.size v l) (hl : l.length ≤ 1000000) (hz : ∀ y ∈ l, y.key.size ≤ 281474976710656) :
    Calls Tryz.prog 121 #[.slice (some ⟨g, 0, none⟩) 1 1] W fun e w' => ∃ v', e = .returned v' ∧ w'.ownsRow W.heap.size 131 2 v' l.length (ilist l) ∧ Below W.heap.size W w' := by
  have hflat : flatI [(v, l)] = l := by simp [flatI]
  have hr : Reads1 W W.heap.size (.slice (some ⟨g, 0, none⟩) 1 1) ([(v, l)].map fun p => p.1) := by
    refine ⟨_, _, rfl, fun _ => ⟨g, 0, rfl, World.block_lt_of_cell? W _ hg, fun j u hu => ?_⟩⟩
    match j, hu with
    | 0, hu => simp at hu; subst hu; exact hg
    | j + 1, hu => simp at hu
  have hc := copied_any _ [(v, l)] W hr (by intro p hp; simp at hp; subst hp; exact h) (by rw [hflat]; exact hl) (by simp) (by rw [hflat]; exact hz)
  rw [hflat] at hc
  exact hc
theorem copy_from {w W : World} {v : Value} {l : List Chd} {g : Nat} (hb : Below w.heap.size w W) (hg : W.cell? ⟨g, 0, none⟩ = some v) (h : ReadsIt w w.heap.size v l) (hl : l.length ≤ 1000000) (hz : ∀ y ∈ l, y.key.size ≤ 281474976710656) :
    Calls Tryz.prog 121 #[.slice (some ⟨g, 0, none⟩) 1 1] W fun e w' => ∃ v', e = .returned v' ∧ w'.ownsRow W.heap.size 131 2 v' l.length (ilist l) ∧ Below W.heap.size W w' ∧ Below w.heap.size w w' :=
  (copy_one hg (h.grow hb hb.size) hl hz).mono fun _ _ ⟨v', k1, k2, k3⟩ => ⟨v', k1, k2, k3, hb.trans (k3.mono hb.size)⟩
theorem copy_three {W : World} {v v2 v3 : Value} {l m n : List Chd} {g : Nat} (hg : W.cell? ⟨g, 0, none⟩ = some v) (hg2 : W.cell? ⟨g, 1, none⟩ = some v2) (hg3 : W.cell? ⟨g, 2, none⟩ = some v3) (h : ReadsIt W W.heap.size v l) (h2 : ReadsIt W W.heap.size v2 m) (h3 : ReadsIt W W.heap.size v3 n) (hl : (l ++ (m ++ n)).length ≤ 1000000) (hz : ∀ y ∈ l ++ (m ++ n), y.key.size ≤ 281474976710656) :
    Calls Tryz.prog 121 #[.slice (some ⟨g, 0, none⟩) 3 3] W fun e w' => ∃ v', e = .returned v' ∧ w'.ownsRow W.heap.size 131 2 v' (l ++ (m ++ n)).length (ilist (l ++ (m ++ n))) ∧ Below W.heap.size W w' := by
  have hflat : flatI [(v, l), (v2, m), (v3, n)] = l ++ (m ++ n) := by simp [flatI]
  have hr : Reads1 W W.heap.size (.slice (some ⟨g, 0, none⟩) 3 3) ([(v, l), (v2, m), (v3, n)].map fun p => p.1) := by
    refine ⟨_, _, rfl, fun _ => ⟨g, 0, rfl, World.block_lt_of_cell? W _ hg, fun j u hu => ?_⟩⟩
    match j, hu with
    | 0, hu => simp at hu; subst hu; exact hg
    | 1, hu => simp at hu; subst hu; exact hg2
    | 2, hu => simp at hu; subst hu; exact hg3
    | j + 3, hu => simp at hu
  have hc := copied_any _ [(v, l), (v2, m), (v3, n)] W hr (by intro p hp; simp at hp; rcases hp with rfl | rfl | rfl; exact h; exact h2; exact h3) (by rw [hflat]; exact hl) (by simp) (by rw [hflat]; exact hz)
  rw [hflat] at hc
  exact hc

/-- The first of all has the empty key, in memory. -/
theorem ilist_first {l : List Chd} (h : 0 < l.length) : (ilist l).set 0 (.string ⟨#[]⟩) = ilist (first l) := by
  cases l with
  | nil => simp at h
  | cons c r => rfl

set_option maxRecDepth 100000 in
set_option maxHeartbeats 1000000 in
theorem replace_any (v vx : Value) (l x : List Chd) (i : Int) (w : World) (hr : ReadsIt w w.heap.size v l) (hx : ReadsIt w w.heap.size vx x) (hi : IsInt i) (hl : l.length ≤ 100000) (hlx : x.length ≤ 100000) (hz : ∀ y ∈ l, y.key.size ≤ 281474976710656) (hzx : ∀ y ∈ x, y.key.size ≤ 281474976710656) :
    Calls Tryz.prog 35 #[v, .int .i64 i, vx] w fun e w' => ∃ v', e = .returned v' ∧ w'.ownsRow w.heap.size 131 2 v' (replL l i x).length (ilist (replL l i x)) ∧ Below w.heap.size w w' := by
  obtain ⟨A, c, rfl⟩ := hr.form
  obtain ⟨Ax, cx, rfl⟩ := hx.form
  have hc1 : l.length ≤ c := by obtain ⟨A', c', hv, hc, _⟩ := hr; cases hv; exact hc
  by_cases hin : 0 ≤ i ∧ i < l.length
  · obtain ⟨h0, h1⟩ := hin
    obtain ⟨k, rfl⟩ : ∃ k : Nat, i = k := ⟨i.toNat, by omega⟩
    have hk : k < l.length := by omega
    rw [replL_in hk]
    have r1 := reads_high hr (k := k) (by omega)
    have r2 := reads_low hr (k := k + 1) (by omega)
    have hrH := run_high A l.length c k (by omega)
    have hrL0 := run_low A l.length c (k + 1) (by omega)
    obtain ⟨A2, hA2⟩ : ∃ A2, lowV A l.length c (k + 1) = .slice A2 (l.length - (k + 1)) (c - (k + 1)) := ⟨_, rfl⟩
    simp only [hA2] at hrL0 r2
    have hrL : ∀ W, (Instr.slice 60 (.slice A l.length c) (some (.int .i64 ((k : Int) + 1))) none none).run Tryz.prog W = .ok (.slice A2 (l.length - (k + 1)) (c - (k + 1))) W := fun W => by have := hrL0 W; rwa [show (((k + 1 : Nat)) : Int) = (k : Int) + 1 by omega] at this
    have hlen := rawL_len hk x
    have HC := Lib.hid (fun W g (hb : Below w.heap.size w W) hg hg2 hg3 => copy_three (W := W) (g := g) hg hg2 hg3 (r1.grow hb hb.size) (hx.grow hb hb.size) (r2.grow hb hb.size) (by show (rawL l k x).length ≤ 1000000; omega) (by
      intro y hy
      rcases List.mem_append.1 hy with hy | hy
      · exact hz y (List.mem_of_mem_take hy)
      · rcases List.mem_append.1 hy with hy | hy
        · exact hzx y hy
        · exact hz y (List.mem_of_mem_drop hy)))
    have hDD : l.take k ++ (x ++ l.drop (k + 1)) = rawL l k x := rfl
    simp only [hDD] at HC
    have hfl := first_len (rawL l k x)
    have hif := @ilist_first (rawL l k x)
    clear r1 r2 hrL0 hA2 hDD hr hx hz hzx h0 h1
    have hk0 : ¬ ((k : Int) < 0) := by omega
    have hkl : (k : Int) < l.length := by omega
    have hk100 : (k : Int) ≤ 100000 := by omega
    rw [hfl]
    generalize rawL l k x = D at *
    generalize x.length = nx at *
    obtain ⟨M, hM⟩ : ∃ M, D.length = M := ⟨_, rfl⟩
    have hM1 : (M : Int) ≤ 200000 := by omega
    have HM := Lib.hid (And.intro hM (And.intro hif hlen))
    clear hif hlen hfl
    rw [hM]
    simp only [hM] at HC
    clear hM
    generalize l.length = n at *
    have hwi : IntKind.i64.wrap ((k : Int) + 1) = (k : Int) + 1 := by rw [IntKind.wrap_i64]; omega
    go_enter Tryz.func35, Tryz.ntmps35
    go_wp2_with fail
    have hb0 := Below.refl w.heap.size w
    go_region_held3 (fun w' => True) (trivial) (first
      | (go_at_call 121; ((with_reducible refine (HC.out _ _ (by repeat (first | assumption | (refine Below.drew ?_) | (refine below_allocC ?_ _))) ?_ ?_ ?_).mono ?_)); (go_simp); (go_simp); (go_simp); rintro e w4 ⟨v4, rfl, hown4, hb4⟩))
    have hown5 := row_lower hown4 (base' := w.heap.size) (by simp [World.drew])
    have hb5 : Below w.heap.size w w4 := by
      first
        | exact ((Below.refl _ _).alloc (Nat.le_refl _) _).drew.trans (hb4.mono (by simp [World.drew]))
        | exact ((Below.refl _ _).drew.alloc (Nat.le_refl _) _).trans (hb4.mono (by simp [World.drew]))
    have hform : ∃ A4 c4, v4 = .slice A4 M c4 ∧ (0 < M → ∃ g, A4 = some ⟨g, 0, none⟩) := by
      rcases hown5.2 with ⟨rfl, rfl⟩ | ⟨g, cap, cur, rfl, _⟩
      · exact ⟨none, 0, rfl, fun h => absurd h (by omega)⟩
      · exact ⟨_, _, rfl, fun _ => ⟨g, rfl⟩⟩
    obtain ⟨A4, c4, rfl, hg4⟩ := hform
    by_cases hM0 : M = 0
    · have HO := Lib.hid (And.intro hown5 hb5)
      clear hown4 hb4 hown5 hb5 hg4 HC
      have hD : D = [] := List.eq_nil_of_length_eq_zero (by have := HM.out.1; omega)
      have HD := Lib.hid hD
      subst hM0
      clear hD
      go_wp2_with fail
      go_ret
      have hD := HD.out
      rw [hD] at HO ⊢
      exact ⟨_, rfl, HO.out⟩
    · obtain ⟨g, rfl⟩ := hg4 (by omega)
      have hst := (hown5.stored 0 (.string ⟨#[]⟩)).1
      rw [HM.out.2.1 (by have := HM.out.1; omega)] at hst
      have hgg := (hown5.lt g rfl).1
      have hfz := hown5.frozenAt 0
      have hc0 : ∃ u, w4.cell? ⟨g, 0, none⟩ = some u := by
        have h1 := hown5.cellAt 0 (by omega)
        rw [h1]
        have h2 : 0 < (ilist D).length := by rw [length_ilist]; have := HM.out.1; omega
        exact ⟨_, List.getElem?_eq_getElem h2⟩
      obtain ⟨u0, hc0⟩ := hc0
      have HO := Lib.hid (And.intro hst (hb5.setCell (p := ⟨g, 0, none⟩) hgg (.string ⟨#[]⟩)))
      have hM0' : ((0 : Int) < (M : Int)) := by omega
      clear hown4 hb4 hown5 hb5 hg4 HC hst
      go_wp2_with fail
      go_ret
      exact ⟨_, rfl, HO.out⟩
  · have e1 : replL l i x = l := by unfold replL; rw [if_neg hin]
    rw [e1]
    have HC := Lib.hid (fun W g (hb : Below w.heap.size w W) hg => copy_one (W := W) (g := g) (v := .slice A l.length c) (l := l) hg (hr.grow hb hb.size) (by omega) hz)
    have hno : i < 0 ∨ (0 ≤ i ∧ (l.length : Int) ≤ i) := by omega
    generalize l.length = n at *
    generalize x.length = nx at *
    clear hin hr hx hz hzx e1
    rcases hno with h | ⟨h, h2⟩
    all_goals
      go_enter Tryz.func35, Tryz.ntmps35
      go_wp2_with fail
      refine (HC.out _ _ ((Below.refl _ _).alloc (Nat.le_refl _) _) ?_).mono ?_
      · go_simp
      rintro e w2 ⟨v2, rfl, hown, hb2⟩
      go_wp2_with fail
      go_ret
      exact ⟨v2, rfl, row_lower hown (by simp), ((Below.refl _ _).alloc (Nat.le_refl _) _).trans (hb2.mono (by simp))⟩
end Go.Proofs.YtpfifmjcmpankaaGreat.BR
