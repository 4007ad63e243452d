/-
  Walks over package leaf: allRight, Fits. Walks over package leaf: Fits, Put. Walks over package leaf: Put. Walks over slices.Grow and slices.Concat of items.
-/
import Derived.Test.YtpoocbkligjgbaaGreatDoorMg23
import Derived.Test.YtpoocbkligjgbaaGreatDoorMg24
import Derived.Laws.Cover1
import Derived.Test.YtpoocbkligjgbaaGreatDoorMg21
import Derived.Test.YtpoocbkligjgbaaGreatDoorShelf3
import Derived.Laws.AppendOwn
import Derived.Laws.AppendOwnNone
import Derived.Laws.OwnMore
import Derived.Lib.AppendZeros
namespace Go.Proofs.YtpoocbkligjgbaaGreatDoor
open Go.RowKit Go.Lib

theorem okl_next {l : List Itm} {k : Nat} (hk : k < l.length) (h : OKL (l.take k)) (hr : rightB l[k] = true) (hl : ∀ h : 0 < k, ltK (l[k - 1]'(by omega)).key l[k].key = true) : OKL (l.take (k + 1)) := by
  refine ⟨fun x hx => ?_, ?_⟩
  · rw [take_snoc1 l k hk, List.mem_append] at hx
    rcases hx with hx | hx
    · exact h.1 x hx
    · simp at hx
      rw [hx]
      exact hr
  · refine rise_next fun i hi => ?_
    simp only [List.length_take] at hi
    rw [List.getElem_take, List.getElem_take]
    by_cases e : i + 1 = k
    · subst e
      exact hl (by omega)
    · have := h.2.at (i := i) (j := i + 1) (by omega) (by simp; omega)
      rwa [List.getElem_take, List.getElem_take] at this

set_option maxRecDepth 100000 in
set_option maxHeartbeats 1000000 in
theorem allRight_any (v : Value) (l : List Itm) (w : World) (hr : ReadsIt w w.heap.size v l) :
    Calls Tryz.prog 191 #[v] w fun e w' => e = .returned (.bool (decide (OKL l))) ∧ Below w.heap.size w w' := by
  obtain ⟨A, c, rfl, hlc, hcm, _, hc⟩ := hr
  have hl63 : l.length ≤ 9223372036854775807 := by unfold maxLen at hcm; omega
  clear hlc hcm
  obtain ⟨T, hT⟩ : ∃ T, decide (OKL l) = T := ⟨_, rfl⟩
  rw [hT]
  have HT := Lib.hid hT
  clear hT
  go_enter Tryz.func191, Tryz.ntmps191
  go_wp2
  go_loopw [7] (fun i wr => ∃ k : Nat, k ≤ l.length ∧ i = .int .i64 k ∧ OKL (l.take k) ∧ Below w.heap.size w wr) (fun i _ => l.length - (RowKit.intOf i).toNat)
  case atStart => exact ⟨0, Nat.zero_le _, rfl, ⟨fun x hx => by simp at hx, List.Pairwise.nil⟩, Below.refl _ _⟩
  case round =>
    obtain ⟨k, hk, rfl, hok, hbl⟩ := hrel
    have hbs := hbl.size
    by_cases hlt : k < l.length
    · obtain ⟨b, off, rfl, hbb, hcell⟩ := hc (by omega)
      obtain ⟨c0, c1, c2, c3⟩ := (hcell.below hbl hbb) k hlt
      have hnx := fun h1 h2 => okl_next hlt hok h1 h2
      have hno : rightB l[k] = false → decide (OKL l) = false := fun h => decide_eq_false fun h2 => by
        have := h2.1 l[k] (by simp)
        rw [h] at this; cases this
      by_cases hri : rightB l[k] = true
      · have HR := Lib.hid (fun w => lright_any l[k] w)
        rw [hri] at HR
        by_cases hk0 : k = 0
        · have hok1 := hnx hri (fun h => absurd h (by omega))
          generalize l[k] = x at *
          have HOK := Lib.hid (And.intro hok1 hno)
          have hk1 : ¬ ((0 : Int) < (k : Int)) := by omega
          have hk2 : ¬ 0 < k := by omega
          clear hok hnx hno hc hcell hri hok1 hk0
          go_wp2_with fail
          obtain ⟨W0, hW0⟩ : ∃ W0, W0 = wr.alloc (iobj x) := ⟨_, rfl⟩
          have hbx := held_box hW0
          have h0 : Below wr.heap.size wr W0 := by subst hW0; exact (Below.refl _ _).alloc (Nat.le_refl _) _
          have hb0 := Below.refl W0.heap.size W0
          obtain ⟨d0, d1, d2, d3⟩ := hbx W0 hb0
          rw [← hW0]
          have HB := Lib.hid (And.intro hbx h0)
          clear hW0 hbx h0
          have e0 := cell_gw d0
          have e1 := cell_gw d1
          have e2 := cell_gw d2
          have e3 := cell_gw d3
          refine wp_region_gw (by kernel_rfl) (by kernel_rfl) ?_
          repeat (refine wq_step (fun K hK => ?_); go_simp; first | (refine hK _ ?_; clear hK K) | (apply Exists.intro; refine ⟨fun _ => ?_, hK _ ?_⟩; (go_at_call 244; ((with_reducible exact Calls.gw_of (HR.out _)))); clear hK K))
          refine wq_nil ?_
          intro w1 hw1
          replace hw1 := gw_to hw1
          clear e0 e1 e2 e3 d0 d1 d2 d3 c0 c1 c2 c3
          go_wp2
          go_roundw
          case rel => exact ⟨k + 1, by omega, by go_num, HOK.out.1, (hbl.trans (HB.out.2.mono hbs)).trans (hw1.mono (Nat.le_trans hbs HB.out.2.size))⟩
          case measure => simp [RowKit.intOf]; omega
        · obtain ⟨j, rfl⟩ : ∃ j, k = j + 1 := ⟨k - 1, by omega⟩
          clear hk0
          obtain ⟨b0, b1, b2, b3⟩ := (hcell.below hbl hbb) j (by omega)
          have hjb : (0 : Int) ≤ j := by omega
          have hjl : (j : Int) < (l.length : Int) := by omega
          have hjl2 : j < l.length := by omega
          have hwj : IntKind.i64.wrap (j : Int) = (j : Int) := by rw [IntKind.wrap_i64]; omega
          cases hlk : ltK l[j].key l[j + 1].key
          · have HTF := Lib.hid (HT.out.symm.trans (decide_eq_false fun h2 => by have h3 := h2.2.at (i := j) (j := j + 1) (by omega) (by omega); rw [hlk] at h3; cases h3))
            generalize l[j + 1] = x at *
            generalize l[j] = y at *
            unfold ltK at hlk
            clear hok hnx hno hc hcell hri
            go_wp2_with fail
            obtain ⟨W0, hW0⟩ : ∃ W0, W0 = wr.alloc (iobj x) := ⟨_, rfl⟩
            have hbx := held_box hW0
            have h0 : Below wr.heap.size wr W0 := by subst hW0; exact (Below.refl _ _).alloc (Nat.le_refl _) _
            have hb0 := Below.refl W0.heap.size W0
            obtain ⟨d0, d1, d2, d3⟩ := hbx W0 hb0
            have e4 : W0.cell? ⟨b, off + j * 4, none⟩ = some (.string y.key) := (h0.cell (p := ⟨b, off + j * 4, none⟩) (Nat.lt_of_lt_of_le hbb hbs)).trans b0
            have e5 := cell_gw e4
            rw [← hW0]
            have HB := Lib.hid (And.intro hbx h0)
            clear hW0 hbx h0
            have e0 := cell_gw d0
            have e1 := cell_gw d1
            have e2 := cell_gw d2
            have e3 := cell_gw d3
            refine wp_region_gw (by kernel_rfl) (by kernel_rfl) ?_
            repeat (refine wq_step (fun K hK => ?_); go_simp; first | (refine hK _ ?_; clear hK K) | (apply Exists.intro; refine ⟨fun _ => ?_, hK _ ?_⟩; (go_at_call 244; ((with_reducible exact Calls.gw_of (HR.out _)))); clear hK K))
            refine wq_nil ?_
            intro w1 hw1
            replace hw1 := gw_to hw1
            clear e0 e1 e2 e3 e4 e5 d0 d1 d2 d3 c0 c1 c2 c3 b0 b1 b2 b3
            go_wp2
            go_ret
            exact ⟨ret_bool HTF.out.symm, (hbl.trans (HB.out.2.mono hbs)).trans (hw1.mono (Nat.le_trans hbs HB.out.2.size))⟩
          · have hok1 := hnx hri (fun _ => hlk)
            generalize l[j + 1] = x at *
            generalize l[j] = y at *
            have HOK := Lib.hid (And.intro hok1 hno)
            unfold ltK at hlk
            clear hok hnx hno hc hcell hri hok1
            go_wp2_with fail
            obtain ⟨W0, hW0⟩ : ∃ W0, W0 = wr.alloc (iobj x) := ⟨_, rfl⟩
            have hbx := held_box hW0
            have h0 : Below wr.heap.size wr W0 := by subst hW0; exact (Below.refl _ _).alloc (Nat.le_refl _) _
            have hb0 := Below.refl W0.heap.size W0
            obtain ⟨d0, d1, d2, d3⟩ := hbx W0 hb0
            have e4 : W0.cell? ⟨b, off + j * 4, none⟩ = some (.string y.key) := (h0.cell (p := ⟨b, off + j * 4, none⟩) (Nat.lt_of_lt_of_le hbb hbs)).trans b0
            have e5 := cell_gw e4
            rw [← hW0]
            have HB := Lib.hid (And.intro hbx h0)
            clear hW0 hbx h0
            have e0 := cell_gw d0
            have e1 := cell_gw d1
            have e2 := cell_gw d2
            have e3 := cell_gw d3
            refine wp_region_gw (by kernel_rfl) (by kernel_rfl) ?_
            repeat (refine wq_step (fun K hK => ?_); go_simp; first | (refine hK _ ?_; clear hK K) | (apply Exists.intro; refine ⟨fun _ => ?_, hK _ ?_⟩; (go_at_call 244; ((with_reducible exact Calls.gw_of (HR.out _)))); clear hK K))
            refine wq_nil ?_
            intro w1 hw1
            replace hw1 := gw_to hw1
            clear e0 e1 e2 e3 e4 e5 d0 d1 d2 d3 c0 c1 c2 c3 b0 b1 b2 b3
            go_wp2
            go_roundw
            case rel => exact ⟨j + 1 + 1, by omega, by go_num, HOK.out.1, (hbl.trans (HB.out.2.mono hbs)).trans (hw1.mono (Nat.le_trans hbs HB.out.2.size))⟩
            case measure => simp [RowKit.intOf]; omega
      · have hri : rightB l[k] = false := by simpa using hri
        have HTF := Lib.hid (HT.out.symm.trans (hno hri))
        have HR := Lib.hid (fun w => lright_any l[k] w)
        rw [hri] at HR
        generalize l[k] = x at *
        have HOK := Lib.hid (And.intro hok (And.intro hnx hno))
        clear hok hnx hno hc hcell hri
        go_wp2_with fail
        obtain ⟨W0, hW0⟩ : ∃ W0, W0 = wr.alloc (iobj x) := ⟨_, rfl⟩
        have hbx := held_box hW0
        have h0 : Below wr.heap.size wr W0 := by subst hW0; exact (Below.refl _ _).alloc (Nat.le_refl _) _
        have hb0 := Below.refl W0.heap.size W0
        obtain ⟨d0, d1, d2, d3⟩ := hbx W0 hb0
        rw [← hW0]
        have HB := Lib.hid (And.intro hbx h0)
        clear hW0 hbx h0
        have e0 := cell_gw d0
        have e1 := cell_gw d1
        have e2 := cell_gw d2
        have e3 := cell_gw d3
        refine wp_region_gw (by kernel_rfl) (by kernel_rfl) ?_
        repeat (refine wq_step (fun K hK => ?_); go_simp; first | (refine hK _ ?_; clear hK K) | (apply Exists.intro; refine ⟨fun _ => ?_, hK _ ?_⟩; (go_at_call 244; ((with_reducible exact Calls.gw_of (HR.out _)))); clear hK K))
        refine wq_nil ?_
        intro w1 hw1
        replace hw1 := gw_to hw1
        clear e0 e1 e2 e3 d0 d1 d2 d3 c0 c1 c2 c3
        go_wp2
        go_ret
        exact ⟨ret_bool HTF.out.symm, (hbl.trans (HB.out.2.mono hbs)).trans (hw1.mono (Nat.le_trans hbs HB.out.2.size))⟩
    · obtain rfl : k = l.length := by omega
      rw [List.take_length] at hok
      have HTF := Lib.hid (HT.out.symm.trans (decide_eq_true hok))
      go_wp2
      go_ret
      exact ⟨ret_bool HTF.out.symm, hbl⟩
end Go.Proofs.YtpoocbkligjgbaaGreatDoor

namespace Go.Proofs.YtpoocbkligjgbaaGreatDoor
open Go.RowKit Go.Lib

theorem bld_below {B b : Nat} {bs : List Value} {w w' : World} (h : IsBuilder 270 5 B b bs w) (hb : Below w.heap.size w w') : IsBuilder 270 5 B b bs w' := by
  rcases h with ⟨h1, v, h2, h3, h4⟩ | ⟨h1, v, h2, h3, h4⟩
  · exact .inl ⟨h1, v, (hb.block b (lt_of_block h2)).trans h2, row_kept (F := []) h3 (Kept.of_below hb) (fun g _ hF => by simp at hF), h4⟩
  · exact .inr ⟨h1, v, (hb.block b (lt_of_block h2)).trans h2, row_kept (F := []) h3 (Kept.of_below hb) (fun g _ hF => by simp at hF), h4⟩

theorem okl_sz {l : List Itm} (h : OKL l) (hl : l.length ≤ 35184372088832) : sz l ≤ 4611686018427387904 := by
  have := right_sz h.1
  omega

set_option maxRecDepth 100000 in
set_option maxHeartbeats 1000000 in
theorem lffits_any (v : Value) (l : List Itm) (w : World) (hr : ReadsIt w w.heap.size v l) (hl : l.length ≤ 35184372088832) :
    Calls Tryz.prog 132 #[v] w fun e w' => e = .returned (.bool (decide (OKL l ∧ sz l ≤ 240))) ∧ Below w.heap.size w w' := by
  have ha := allRight_any v l w hr
  by_cases hok : OKL l
  · have hs := fun w1 (hb : Below w.heap.size w w1) => size_any v l w1 (hr.grow hb hb.size) (fun x hx => right_ok (hok.1 x hx)) (okl_sz hok hl)
    have e1 : decide (OKL l ∧ sz l ≤ 240) = decide (sz l ≤ 240) := by simp [hok]
    rw [decide_eq_true hok] at ha
    rw [e1]
    have hsz := okl_sz hok hl
    generalize sz l = n at *
    have HS := Lib.hid hs
    clear hs e1 hok
    go_enter Tryz.func132, Tryz.ntmps132
    go_wp2_with fail
    refine ha.mono ?_
    rintro e w1 ⟨rfl, hb1⟩
    clear ha hr
    go_wp2_with fail
    refine (HS.out _ hb1).mono ?_
    rintro e w2 ⟨rfl, hb2⟩
    go_wp2_with fail
    all_goals
      go_ret
      exact ⟨ret_bool (by first | rfl | (simp; done) | (simp; omega)), hb1.trans (hb2.mono hb1.size)⟩
  · have e1 : decide (OKL l ∧ sz l ≤ 240) = false := by simp [hok]
    rw [decide_eq_false hok] at ha
    rw [e1]
    clear e1 hok hr
    go_enter Tryz.func132, Tryz.ntmps132
    go_wp2_with fail
    refine ha.mono ?_
    rintro e w1 ⟨rfl, hb1⟩
    clear ha
    go_wp2_with fail
    go_ret
    exact ⟨rfl, hb1⟩
end Go.Proofs.YtpoocbkligjgbaaGreatDoor

namespace Go.Proofs.YtpoocbkligjgbaaGreatDoor
open Go.RowKit Go.Lib

/-- The bytes of one text, as a text. -/
def textS (s : ByteArray) : ByteArray := ⟨(textB s).toArray⟩
theorem textS_list (s : ByteArray) : (textS s).data.toList = textB s := by simp [textS]
theorem textS_size (s : ByteArray) : (textS s).size = (textB s).length := by simp [textS, ByteArray.size]
theorem boolS_list (b : Bool) : (boolS b).data.toList = [if b then 1 else 0] := rfl
theorem text1_any (g : Nat) (s : ByteArray) (w : World) (hs : s.size ≤ 1000000) (hc : w.cell? ⟨g, 0, none⟩ = some (.string s)) :
    Calls Tryz.prog 194 #[.slice (some ⟨g, 0, none⟩) 1 1] w fun e w' => e = .returned (.string (textS s)) ∧ Below w.heap.size w w' := by
  have hr : Reads1 w w.heap.size (.slice (some ⟨g, 0, none⟩) 1 1) ([s].map Value.string) := by
    refine ⟨_, _, rfl, fun _ => ⟨g, 0, rfl, World.block_lt_of_cell? w _ hc, fun j u hu => ?_⟩⟩
    match j, hu with
    | 0, hu => simp at hu; subst hu; exact hc
    | j + 1, hu => simp at hu
  have h := text_any _ [s] w hr (by simp) (by simp [sizes]; omega)
  have e1 : (⟨(textsB [s]).toArray⟩ : ByteArray) = textS s := by simp [textsB, textS]
  rw [e1] at h
  exact h
/-- WriteString, in a world that has grown out of one in which the builder is known. -/
theorem put_write {B : Nat} {m : List UInt8} {wr W : World} (s : ByteArray) (h : IsBuilder 270 5 B B (byteCells m) wr) (hb : Below wr.heap.size wr W) (hm : m.length ≤ 1000000) (hs : s.size ≤ 1000000) :
    Calls Tryz.prog 162 #[.pointer (some ⟨B, 0, none⟩), .string s] W fun e w' => e = .returned (.tuple #[.int .i64 s.size, .nilIface]) ∧ IsBuilder 270 5 B B (byteCells (m ++ s.data.toList)) w' ∧ Below B W w' ∧ KeepsBut B W w' :=
  (bwrite_keeps s (bld_below h hb) hm hs).mono fun _ _ ⟨h1, h2, h3, h4⟩ => ⟨h1, .inr h2, h3, h4⟩
theorem held_has {B g : Nat} {x : Itm} {W w' : World} (hg : g ≠ B) (hk : KeepsBut B W w') (h : Has W g 126 #[.string x.key, .string x.val, .int .i64 x.over, .int .i64 x.size]) :
    Has w' g 126 #[.string x.key, .string x.val, .int .i64 x.over, .int .i64 x.size] := hk g _ _ hg (by decide) h

theorem has_box {W : World} {g : Nat} {x : Itm} (h : Has W g 126 #[.string x.key, .string x.val, .int .i64 x.over, .int .i64 x.size]) : W.cell? ⟨g, 0, none⟩ = some (.string x.key) ∧ W.cell? ⟨g, 1, none⟩ = some (.string x.val) ∧ W.cell? ⟨g, 2, none⟩ = some (.int .i64 x.over) ∧ W.cell? ⟨g, 3, none⟩ = some (.int .i64 x.size) :=
  ⟨h.cell 0, h.cell 1, h.cell 2, h.cell 3⟩
abbrev IBox (W : World) (g : Nat) (x : Itm) : Prop := Has W g 126 #[.string x.key, .string x.val, .int .i64 x.over, .int .i64 x.size]
/-- What is laid for one item while its box stands: in worlds that have grown out of W0. -/
theorem it_text {W0 W : World} {g gb : Nat} {x : Itm} (h0 : IBox W0 gb x) (s : ByteArray) (hs : s.size ≤ 1000000) (hb : Below W0.heap.size W0 W) (hc : W.cell? ⟨g, 0, none⟩ = some (.string s)) :
    Calls Tryz.prog 194 #[.slice (some ⟨g, 0, none⟩) 1 1] W fun e w' => e = .returned (.string (textS s)) ∧ Below W0.heap.size W0 w' ∧ w'.cell? ⟨gb, 0, none⟩ = some (.string x.key) ∧ w'.cell? ⟨gb, 1, none⟩ = some (.string x.val) ∧ w'.cell? ⟨gb, 2, none⟩ = some (.int .i64 x.over) ∧ w'.cell? ⟨gb, 3, none⟩ = some (.int .i64 x.size) :=
  (text1_any g s W hs hc).mono fun _ _ ⟨h1, h2⟩ => ⟨h1, hb.trans (h2.mono hb.size), has_box (h0.below (hb.trans (h2.mono hb.size)) h0.inside)⟩
theorem it_else {W0 W : World} {gb : Nat} {x : Itm} (h0 : IBox W0 gb x) (hb : Below W0.heap.size W0 W) :
    Calls Tryz.prog 196 #[iagg x] W fun e w' => e = .returned (.bool (x.over != 0)) ∧ Below W0.heap.size W0 w' ∧ w'.cell? ⟨gb, 0, none⟩ = some (.string x.key) ∧ w'.cell? ⟨gb, 1, none⟩ = some (.string x.val) ∧ w'.cell? ⟨gb, 2, none⟩ = some (.int .i64 x.over) ∧ w'.cell? ⟨gb, 3, none⟩ = some (.int .i64 x.size) :=
  (else_any x W).mono fun _ _ ⟨h1, h2⟩ => ⟨h1, hb.trans (h2.mono hb.size), has_box (h0.below (hb.trans (h2.mono hb.size)) h0.inside)⟩
theorem it_write {B : Nat} {m : List UInt8} {W0 W : World} {gb : Nat} {x : Itm} (h0 : IBox W0 gb x) (hg : gb ≠ B) (h : IsBuilder 270 5 B B (byteCells m) W0) (hB : B ≤ W0.heap.size) (s : ByteArray) (hm : m.length ≤ 1000000) (hs : s.size ≤ 1000000) (hb : Below W0.heap.size W0 W) :
    Calls Tryz.prog 162 #[.pointer (some ⟨B, 0, none⟩), .string s] W fun e w' => e = .returned (.tuple #[.int .i64 s.size, .nilIface]) ∧ (IsBuilder 270 5 B B (byteCells (m ++ s.data.toList)) w' ∧ Below B W0 w' ∧ IBox w' gb x) ∧
      w'.cell? ⟨gb, 0, none⟩ = some (.string x.key) ∧ w'.cell? ⟨gb, 1, none⟩ = some (.string x.val) ∧ w'.cell? ⟨gb, 2, none⟩ = some (.int .i64 x.over) ∧ w'.cell? ⟨gb, 3, none⟩ = some (.int .i64 x.size) :=
  (put_write s h hb hm hs).mono fun _ _ ⟨h1, h2, h3, h4⟩ =>
    have h5 := held_has hg h4 (h0.below hb h0.inside)
    ⟨h1, ⟨h2, (hb.mono hB).trans h3, h5⟩, has_box h5⟩
theorem add_any (a b : ByteArray) (ha : a.size ≤ 1000000) (hb : b.size ≤ 1000000) (W : World) : (Op.stringOp .add a b).run Tryz.prog W = .ok (.string (a ++ b)) W := run_string_add_sum W a b (by omega)

set_option maxRecDepth 100000 in
set_option maxHeartbeats 2000000 in
theorem lfput_any (v : Value) (l : List Itm) (w : World) (hr : ReadsIt w w.heap.size v l) (hl : l.length ≤ 35184372088832) :
    Calls Tryz.prog 134 #[v] w fun e w' => e = .returned (.tuple #[.string ⟨(putB l).toArray⟩, .int .i64 (putE l)]) ∧ Below w.heap.size w w' := by
  have ha := allRight_any v l w hr
  obtain ⟨A, c, rfl⟩ := hr.form
  by_cases hok : OKL l
  · have hs := fun w1 (hb : Below w.heap.size w w1) => size_any (.slice A l.length c) l w1 (hr.grow hb hb.size) (fun x hx => right_ok (hok.1 x hx)) (okl_sz hok hl)
    rw [decide_eq_true hok] at ha
    by_cases hsz : sz l ≤ 240
    · have e1 : putE l = 0 := by unfold putE; rw [if_pos hok, if_pos hsz]
      have e2 : putB l = leafB l := by unfold putB; rw [if_pos ⟨hok, hsz⟩]
      rw [e1, e2]
      obtain ⟨n, hn⟩ : ∃ n, l.length = n := ⟨_, rfl⟩
      obtain ⟨T, hT⟩ : ∃ T, sz l = T := ⟨_, rfl⟩
      simp only [hT] at hs
      have hT240 : (T : Int) ≤ 240 := by omega
      rw [hn] at hr ha hs ⊢
      have HS := Lib.hid hs
      have HH := Lib.hid (And.intro hr (And.intro hok (And.intro hn hT)))
      clear hs hr hok hsz e1 e2 hT hl hn
      go_enter Tryz.func134, Tryz.ntmps134
      go_wp2_with fail
      refine ha.mono ?_
      rintro e w1 ⟨rfl, hb1⟩
      clear ha
      go_wp2_with fail
      refine (HS.out _ hb1).mono ?_
      rintro e w2 ⟨rfl, hb2⟩
      have hb2' := hb1.trans (hb2.mono hb1.size)
      clear hb1 hb2 HS
      go_wp2_with fail
      have hst := fresh_isBuilder 270 5 w2
      have hbz := ((Below.refl w2.heap.size w2).alloc (Nat.le_refl _) (.cells #[.pointer none, .slice none 0 0] 270))
      obtain ⟨B, hB⟩ : ∃ B, w2.heap.size = B := ⟨_, rfl⟩
      rw [hB] at hst hbz ⊢
      have HBB := Lib.hid (And.intro hB (And.intro hst (And.intro hb2' hbz)))
      clear hB hst hb2' hbz
      go_loopw [15] (fun iv wr => ∃ k : Nat, k ≤ n ∧ iv = .int .i64 k ∧ IsBuilder 270 5 B B (byteCells (leafB (l.take k))) wr ∧ Below B w2 wr) (fun iv _ => n - (RowKit.intOf iv).toNat)
      case atStart => exact ⟨0, Nat.zero_le _, rfl, by simpa [leafB, byteCells] using HBB.out.2.1, HBB.out.2.2.2⟩
      case round =>
        obtain ⟨k, hk, rfl, hbd, hbl⟩ := hrel
        have hBw : B < wr.heap.size := by
          rcases hbd with h | h
          · exact h.lt
          · exact h.lt
        by_cases hlt : k < n
        · obtain ⟨hr, hok, hn, hT⟩ := HH.out
          have hkl : k < l.length := by omega
          have hwr : Below w.heap.size w wr := HBB.out.2.2.1.trans (hbl.mono (by rw [← HBB.out.1]; exact HBB.out.2.2.1.size))
          obtain ⟨A', c', hv, _, hcm, _, hc⟩ := hr
          obtain ⟨b, off, hA, hbb, hcell⟩ := hc (by omega)
          subst hA
          cases hv
          obtain ⟨c0, c1, c2, c3⟩ := (hcell.below hwr hbb) k hkl
          have hri := hok.1 l[k] (by simp)
          have hts := (sz_take l (k + 1)).1
          have HS : Hid (leafB (l.take (k + 1)) = leafB (l.take k) ++ itemB l[k]) := Lib.hid (by rw [take_snoc1 l k hkl, leafB_snoc])
          have hm : (leafB (l.take k)).length ≤ 240 := by have := (sz_take l k).1; unfold sz at this hT; omega
          generalize l[k] = x at *
          generalize leafB (l.take k) = m at *
          obtain ⟨r1, r2, r3⟩ := right_cases hri
          have hn63 : (k : Int) < l.length := by omega
          have hn64 : (l.length : Int) ≤ 9223372036854775807 := by unfold maxLen at hcm; omega
          have HR := Lib.hid (And.intro hri (And.intro hbl (And.intro hbd (And.intro hwr r3))))
          clear hts hok hT hcell hcm hc hri hwr r3 hbl
          go_wp2_with fail
          obtain ⟨W0, hW0⟩ : ∃ W0, W0 = wr.alloc (iobj x) := ⟨_, rfl⟩
          rw [← hW0]
          have h0 : IBox W0 wr.heap.size x := by subst hW0; exact Has.made _ _ _
          have hwW0 : Below wr.heap.size wr W0 := by subst hW0; exact (Below.refl _ _).alloc (Nat.le_refl _) _
          have hbd0 := bld_below hbd hwW0
          have hs0 : wr.heap.size < W0.heap.size := h0.inside
          have hB0 : B ≤ W0.heap.size := by omega
          have hgB : wr.heap.size ≠ B := by omega
          have hks : (textS x.key).size ≤ 1000 := by rw [textS_size, textB_small (by omega)]; omega
          have hbo := boolS_size (x.over != 0)
          have hbx : ∀ W, Below W0.heap.size W0 W → W.cell? ⟨wr.heap.size, 0, none⟩ = some (.string x.key) ∧ W.cell? ⟨wr.heap.size, 1, none⟩ = some (.string x.val) ∧ W.cell? ⟨wr.heap.size, 2, none⟩ = some (.int .i64 x.over) ∧ W.cell? ⟨wr.heap.size, 3, none⟩ = some (.int .i64 x.size) := fun W h => has_box (h0.below h h0.inside)
          have HK := Lib.hid hbx
          have H1 := Lib.hid (fun W g hb hc => it_text (W := W) (g := g) h0 x.key (by omega) hb hc)
          have H2 := Lib.hid (fun W hb => it_else (W := W) h0 hb)
          have H3 := Lib.hid (fun W hb => it_write (W := W) h0 hgB hbd0 hB0 (textS x.key ++ boolS (x.over != 0)) (by omega) (by rw [ByteArray.size_append]; omega) hb)
          have hadd := add_any (textS x.key) (boolS (x.over != 0)) (by omega) (by omega)
          have hb0 := Below.refl W0.heap.size W0
          have HQ := Lib.hid (And.intro hwW0 (And.intro hbd0 (And.intro hB0 hgB)))
          clear hbx h0 hwW0 hbd0 hW0 hbo hks hgB hbd
          go_region_held3 (fun w' => w'.cell? ⟨wr.heap.size, 0, none⟩ = some (.string x.key) ∧ w'.cell? ⟨wr.heap.size, 1, none⟩ = some (.string x.val) ∧ w'.cell? ⟨wr.heap.size, 2, none⟩ = some (.int .i64 x.over) ∧ w'.cell? ⟨wr.heap.size, 3, none⟩ = some (.int .i64 x.size))
            (first | (refine ⟨?_, ?_, ?_, ?_⟩ <;> assumption) | exact HK.out _ (by first | assumption | exact Below.drew (by assumption) | exact Below.alloc (by assumption) (Nat.le_refl _) _ | exact Below.alloc (by assumption) (Below.size (w := W0) (by assumption)) _ | exact Below.drew (Below.alloc (by assumption) (Nat.le_refl _) _) | exact Below.drew (Below.alloc (by assumption) (Below.size (w := W0) (by assumption)) _))) (first
            | (go_at_call 194; ((with_reducible refine (H1.out _ _ (by first | assumption | exact Below.drew (by assumption) | exact Below.alloc (by assumption) (Nat.le_refl _) _ | exact Below.alloc (by assumption) (Below.size (w := W0) (by assumption)) _ | exact Below.drew (Below.alloc (by assumption) (Nat.le_refl _) _) | exact Below.drew (Below.alloc (by assumption) (Below.size (w := W0) (by assumption)) _)) ?_).mono ?_)); (go_simp); rintro e w3 ⟨rfl, hb3, f0, f1, f2, f3⟩)
            | (go_at_call 196; ((with_reducible refine (H2.out _ (by first | assumption | exact Below.drew (by assumption) | exact Below.alloc (by assumption) (Nat.le_refl _) _ | exact Below.alloc (by assumption) (Below.size (w := W0) (by assumption)) _ | exact Below.drew (Below.alloc (by assumption) (Nat.le_refl _) _) | exact Below.drew (Below.alloc (by assumption) (Below.size (w := W0) (by assumption)) _))).mono ?_)); rintro e w4 ⟨rfl, hb4, g0, g1, g2, g3⟩)
            | (go_at_call 195; ((with_reducible refine (boolS_any _ _).mono ?_)); rintro e w5 ⟨rfl, rfl⟩)
            | (go_at_call 162; ((with_reducible refine (H3.out _ (by first | assumption | exact Below.drew (by assumption) | exact Below.alloc (by assumption) (Nat.le_refl _) _ | exact Below.alloc (by assumption) (Below.size (w := W0) (by assumption)) _ | exact Below.drew (Below.alloc (by assumption) (Nat.le_refl _) _) | exact Below.drew (Below.alloc (by assumption) (Below.size (w := W0) (by assumption)) _))).mono ?_)); rintro e w6 ⟨rfl, hq6, e0, e1, e2, e3⟩))
          obtain ⟨m1, hm1⟩ : ∃ m1, m ++ (textS x.key ++ boolS (x.over != 0)).data.toList = m1 := ⟨_, rfl⟩
          obtain ⟨hbd6, hb6, hbox6⟩ := hq6
          rw [hm1] at hbd6
          have hm1l : m1.length ≤ 1000 := by
            have h1 := textS_size x.key
            have h2 := textB_small (s := x.key) (by omega)
            rw [← hm1]
            simp [ByteArray.size, textS, boolS] at h1 ⊢
            omega
          have hB6 : B ≤ w6.heap.size := Nat.le_trans hB0 hb6.size
          have H2' := Lib.hid (fun W hb => it_else (W0 := w6) (W := W) hbox6 hb)
          have hbd6' := Lib.hid hbd6
          have HB6 := Lib.hid (And.intro hb6 (And.intro hbox6 hm1))
          have h6 := Below.refl w6.heap.size w6
          clear H1 H2 H3 HK hbd6 hb6 hbox6 hadd hb0 hm1 hb3 hb4 f0 f1 f2 f3 g0 g1 g2 g3
          by_cases ho : x.over = 0
          · have hbo : (x.over != 0) = false := by simpa using ho
            have hib : itemB x = textB x.key ++ (0 :: textB x.val) := by unfold itemB; rw [if_pos ho, if_pos ho]
            have hvs : x.val.size ≤ 60 := by
              have := HR.out.2.2.2.2
              rcases this with h | h
              · exact h.2.2
              · omega
            rw [hbo] at H2'
            have HO := Lib.hid (And.intro ho (And.intro hbo hib))
            clear ho hbo hib
            go_wp2_with fail
            refine (H2'.out _ h6).mono ?_
            rintro e w7 ⟨rfl, hb7, f0, f1, f2, f3⟩
            clear e0 e1 e2 e3
            go_wp2_with fail
            refine (text1_any _ x.val _ (by omega) ?_).mono ?_
            · go_simp
            rintro e w8 ⟨rfl, hb8⟩
            have hb68 : Below w6.heap.size w6 w8 := (hb7.alloc hb7.size _).trans (hb8.mono (by have := hb7.size; simp; omega))
            clear f0 f1 f2 f3
            go_wp2_with fail
            refine (put_write (textS x.val) hbd6'.out hb68 (by omega) (by rw [textS_size, textB_small (by omega)]; omega)).mono ?_
            rintro e w9 ⟨rfl, hbd9, hb9, _⟩
            have HF := Lib.hid (And.intro hbd9 ((hb68.mono hB6).trans hb9))
            clear hbd9 hb9 hb68 hb7 hb8 h6
            go_wp2_with fail
            go_roundw
            case rel =>
              refine ⟨k + 1, by omega, by go_num, ?_, HR.out.2.1.trans ((HQ.out.1.mono (by omega)).trans (HB6.out.1.trans HF.out.2))⟩
              have h9 := HF.out.1
              have e9 : m1 ++ (textS x.val).data.toList = leafB (l.take (k + 1)) := by
                rw [HS.out, ← HB6.out.2.2, HO.out.2.2, HO.out.2.1, textS_list]
                simp [textS_list, boolS_list]
              rw [e9] at h9
              exact h9
            case measure => simp [RowKit.intOf]; omega
          · have hbo : (x.over != 0) = true := by simpa using ho
            have hib : itemB x = textB x.key ++ (1 :: varsB [x.over, x.size]) := by unfold itemB; rw [if_neg ho, if_neg ho]
            have hin := right_ok HR.out.1
            have hvl := varsB_len [x.over, x.size] (by intro y hy; simp at hy; rcases hy with rfl | rfl; exact hin.2.2.1; exact hin.2.2.2)
            have HV := Lib.hid (fun g W hc hd => var2_any g x.over x.size W hin.2.2.1 hin.2.2.2 hc hd)
            rw [hbo] at H2'
            have HO := Lib.hid (And.intro ho (And.intro hbo hib))
            clear ho hbo hib hin
            generalize hVb : varsB [x.over, x.size] = Vb at *
            have HVb := Lib.hid hVb
            clear hVb
            have hVs : (⟨Vb.toArray⟩ : ByteArray).size ≤ 1000 := by simp [ByteArray.size]; simp at hvl; omega
            have hVd : (⟨Vb.toArray⟩ : ByteArray).data.toList = Vb := by simp
            have HVd := Lib.hid hVd
            clear hVd hvl
            generalize (⟨Vb.toArray⟩ : ByteArray) = Vs at *
            go_wp2_with fail
            refine (H2'.out _ h6).mono ?_
            rintro e w7 ⟨rfl, hb7, f0, f1, f2, f3⟩
            clear e0 e1 e2 e3
            go_wp2_with fail
            refine (HV.out _ _ ?_ ?_).mono ?_
            · go_simp
            · go_simp
            rintro e w8 ⟨rfl, hb8⟩
            have hb68 : Below w6.heap.size w6 w8 := (hb7.alloc hb7.size _).trans (hb8.mono (by have := hb7.size; simp; omega))
            clear f0 f1 f2 f3
            go_wp2_with fail
            refine (put_write Vs hbd6'.out hb68 (by omega) (by omega)).mono ?_
            rintro e w9 ⟨rfl, hbd9, hb9, _⟩
            have HF := Lib.hid (And.intro hbd9 ((hb68.mono hB6).trans hb9))
            clear hbd9 hb9 hb68 hb7 hb8 h6
            go_wp2_with fail
            go_roundw
            case rel =>
              refine ⟨k + 1, by omega, by go_num, ?_, HR.out.2.1.trans ((HQ.out.1.mono (by omega)).trans (HB6.out.1.trans HF.out.2))⟩
              have h9 := HF.out.1
              have e9 : m1 ++ Vs.data.toList = leafB (l.take (k + 1)) := by
                rw [HS.out, ← HB6.out.2.2, HO.out.2.2, HO.out.2.1, HVd.out, ← HVb.out]
                simp [textS_list, boolS_list]
              rw [e9] at h9
              exact h9
            case measure => simp [RowKit.intOf]; omega
        · obtain rfl : k = n := by omega
          obtain ⟨hr, hok, hn, hT⟩ := HH.out
          rw [← hn, List.take_length] at hbd
          have hst := Tryz.Builder_String_any B B _ wr hbd (by omega)
          have hbf := HBB.out.2.2.1.trans (hbl.mono (by rw [← HBB.out.1]; exact HBB.out.2.2.1.size))
          have HR := Lib.hid (And.intro hbf (And.intro HBB.out.1 (And.intro HBB.out.2.2.1 hbl)))
          clear hr hok hn hT hbd hbf hbl
          go_wp2_with fail
          refine hst.mono ?_
          rintro e w1 ⟨rfl, hb1⟩
          have H1 := Lib.hid hb1
          clear hb1 hst
          go_wp2_with fail
          go_ret2
          exact ⟨rfl, HR.out.1.trans (H1.out.mono (by rw [← HR.out.2.1]; exact HR.out.2.2.1.size))⟩
    · have e1 : putE l = 2 := by unfold putE; rw [if_pos hok, if_neg hsz]
      have e2 : putB l = [] := by unfold putB; rw [if_neg (fun h => hsz h.2)]
      rw [e1, e2]
      have h240 : (240 : Int) < (sz l : Nat) := by omega
      generalize sz l = T at *
      generalize l.length = n at *
      have HS := Lib.hid hs
      clear hs hr hok hsz e1 e2 hl
      go_enter Tryz.func134, Tryz.ntmps134
      go_wp2_with fail
      refine ha.mono ?_
      rintro e w1 ⟨rfl, hb1⟩
      clear ha
      go_wp2_with fail
      refine (HS.out _ hb1).mono ?_
      rintro e w2 ⟨rfl, hb2⟩
      have hb2' := hb1.trans (hb2.mono hb1.size)
      clear hb1 hb2 HS
      go_wp2_with fail
      go_ret2
      exact ⟨rfl, hb2'⟩
  · have e1 : putE l = 1 := by unfold putE; rw [if_neg hok]
    have e2 : putB l = [] := by unfold putB; rw [if_neg (fun h => hok h.1)]
    rw [decide_eq_false hok] at ha
    rw [e1, e2]
    generalize l.length = n at *
    clear hok e1 e2 hr
    go_enter Tryz.func134, Tryz.ntmps134
    go_wp2_with fail
    refine ha.mono ?_
    rintro e w1 ⟨rfl, hb1⟩
    clear ha
    go_wp2_with fail
    go_ret2
    exact ⟨rfl, hb1⟩
end Go.Proofs.YtpoocbkligjgbaaGreatDoor

namespace Go.Proofs.YtpoocbkligjgbaaGreatDoor
open Go.RowKit Go.Lib

theorem Tryz.infoItem : (Tryz.prog.info? 126).map (fun i => (i.zero, i.size, i.bytes)) = some (some (.agg #[.string ⟨#[]⟩, .string ⟨#[]⟩, .int .i64 0, .int .i64 0]), 4, 48) := by kernel_rfl

section
variable {ops : Array Oper} {rest : List Oper} {o : Oper} {a : Act} {Q : Exit → Act → World → Prop}
/-- append(row, v...) of items. -/
theorem append_its (hgd : o.guard = none) (s x : Operand) (ho : o.op = .call { callee := .builtin .append, args := #[s, x], argTypes := #[120, 120] }) (base : Nat) (wr : World) (d : Value) (xs : List Itm) (hs : a.eval s = d) (hown : wr.ownsRow base 126 4 d xs.length (ilist xs))
    (B : Nat) (v : Value) (hx : a.eval x = v) (l : List Itm) (hr : ReadsIt wr B v l) (hlen : xs.length + l.length ≤ 1000000) (hbase : base ≤ wr.heap.size)
    (h : ∀ v' w', w'.ownsRow base 126 4 v' (xs ++ l).length (ilist (xs ++ l)) → Below base wr w' → wpList Tryz.prog ops Q rest (a.put o.dst v') w') : wpList Tryz.prog ops Q (o :: rest) a wr := by
  obtain ⟨i0, hi, hz0, hz1, hz2⟩ := info_parts Tryz.infoItem
  obtain ⟨A, c, rfl, _, _, hnil, hc⟩ := hr
  cases A with
  | none =>
    obtain ⟨rfl, rfl⟩ := hnil rfl
    exact wpList_append_own_none hgd s x 120 ho base 126 i0 4 Tryz.underlying120 hi _ xs.length (ilist xs) hs hown hx (h _ _ (by simpa using hown) (Below.refl _ _))
  | some ad =>
    have hcells : ∀ j u, (ilist l)[j]? = some u → wr.cell? (ad.add j) = some u := by
      intro j u hu
      have hj := (List.getElem?_eq_some_iff.1 hu).1
      rw [length_ilist] at hj
      obtain ⟨b, off, hA, _, hcell⟩ := hc (by omega)
      obtain rfl := Option.some.inj hA
      rw [Go.WideShapes.add_plain]
      exact hcell.list j u hu
    refine wpList_append_own _ hgd s x 120 ho base 126 i0 _ 4 48 Tryz.underlying120 hi hz0 hz1 hz2 rfl (by decide) _ xs.length (ilist xs) hs hown ad l.length c (ilist l) hx (length_ilist l) hcells (ilist_one l) (by unfold maxLen; omega) (by omega) hbase ?_
    intro v' w' h2 h3 _
    rw [← ilist_append] at h2
    exact h v' w' (by rw [List.length_append]; exact h2) ((Below.refl base wr).grown h3 hbase (fun k hk => (World.ownsRow.lt hown k hk).1))
end

set_option maxRecDepth 100000 in
set_option maxHeartbeats 400000 in
theorem lgrow_any (n : Nat) (w : World) (hn : n ≤ 1000000) :
    Calls Tryz.prog 247 #[.slice none 0 0, .int .i64 n] w fun e w' => ∃ v, e = .returned v ∧ w'.ownsRow w.heap.size 126 4 v 0 [] ∧ Below w.heap.size w w' := by
  obtain ⟨i0, hi, hz0, hz1, hz2⟩ := info_parts Tryz.infoItem
  have HI := Lib.hid (And.intro hi (And.intro hz0 (And.intro hz1 hz2)))
  clear hi hz0 hz1 hz2
  by_cases h0 : 0 < n
  · have h1 : (n : Int) ≤ 1000000 := by omega
    have h2 : (0 : Int) < n := by omega
    have hr := fun (W : World) (ty : TypeId) => run_append_nil_zeros (P := Tryz.prog) W 120 3 ty 126 i0 _ .i64 .i64 Tryz.underlying120 Tryz.underlying3 HI.out.1 HI.out.2.1 n h0 (by rw [HI.out.2.2.1]; decide) (by omega) (by rw [HI.out.2.2.2]; omega)
    have HR := Lib.hid hr
    clear hr
    go_enter Tryz.func247, Tryz.ntmps247
    go_wp2_with (at_builtin; refine wpList_append_run _ rfl _ _ 120 3 rfl (.slice none 0 0) (.int .i64 n) rfl rfl _ _ (HR.out _ _) ?_)
    go_ret
    have hge := grownCap_ge w n 0 126
    have hcm2 := grownCap_le_maxLen w n 0 126 (by unfold maxLen; omega)
    generalize grownCap w n 0 126 = C at *
    refine ⟨_, rfl, ⟨rfl, .inr ⟨_, _, _, rfl, Nat.le_refl _, heap_alloc_new w.drew _, Nat.zero_le _, hcm2, ?_, ?_⟩⟩, ⟨rfl, rfl, rfl, by simp, fun k hk => Below.heap_alloc w.drew _ k hk⟩⟩
    · simp only [Array.size_append, size_zeroCells, ← Nat.add_mul]
      congr 1
      omega
    · simp
  · obtain rfl : n = 0 := by omega
    go_enter Tryz.func247, Tryz.ntmps247
    go_wp2_with fail
    go_ret
    exact ⟨_, rfl, World.ownsRow_nil _ _ _ _, Below.refl _ _⟩
/-- Lists side by side: the slice, and what it reads. -/
def flatI (P : List (Value × List Itm)) : List Itm := P.flatMap fun p => p.2
theorem flatI_snoc (P : List (Value × List Itm)) (p : Value × List Itm) : flatI (P ++ [p]) = flatI P ++ p.2 := by simp [flatI]
theorem flatI_take (P : List (Value × List Itm)) (k : Nat) : (flatI (P.take k)).length ≤ (flatI P).length := by
  have : (flatI P).length = (flatI (P.take k)).length + (flatI (P.drop k)).length := by
    unfold flatI
    rw [← List.length_append, ← List.flatMap_append, List.take_append_drop]
  omega

set_option maxRecDepth 100000 in
set_option maxHeartbeats 1000000 in
theorem concat_any (v : Value) (P : List (Value × List Itm)) (w : World) (hr : Reads1 w w.heap.size v (P.map fun p => p.1)) (hp : ∀ p ∈ P, ReadsIt w w.heap.size p.1 p.2) (hl : (flatI P).length ≤ 1000000) (hn : P.length ≤ 1000) :
    Calls Tryz.prog 198 #[v] w fun e w' => ∃ v', e = .returned v' ∧ w'.ownsRow w.heap.size 126 4 v' (flatI P).length (ilist (flatI P)) ∧ Below w.heap.size w w' := by
  obtain ⟨A, c, rfl, hc⟩ := hr
  simp only [List.length_map] at hc ⊢
  have HG := Lib.hid (fun W => lgrow_any (flatI P).length W hl)
  go_enter Tryz.func198, Tryz.ntmps198
  go_wp2_with fail
  go_loop [3, 11] (fun n i => ∃ k : Nat, k ≤ P.length ∧ i = .int .i64 k ∧ n = .int .i64 ((flatI (P.take k)).length : Nat)) (fun _ i => P.length - (RowKit.intOf i).toNat)
  case atStart => exact ⟨0, Nat.zero_le _, rfl, rfl⟩
  case round =>
    obtain ⟨k, hk, rfl, rfl⟩ := hrel
    by_cases hlt : k < P.length
    · obtain ⟨b, off, rfl, hbb, hcell⟩ := hc (by omega)
      have hck := hcell k P[k].1 (by simp [hlt])
      have hpk := (hp P[k] (by simp)).form
      have htk := flatI_take P k
      have htk1 := flatI_take P (k + 1)
      have HS : Hid ((flatI (P.take (k + 1))).length = (flatI (P.take k)).length + P[k].2.length) := Lib.hid (by rw [List.take_succ_eq_append_getElem hlt, flatI_snoc, List.length_append])
      have hle : (flatI (P.take k)).length + P[k].2.length ≤ 1000000 := by rw [← HS.out]; omega
      obtain ⟨A1, c1, hA1⟩ := hpk
      rw [hA1] at hck
      generalize P[k].2.length = m at *
      have HH := Lib.hid (And.intro hc (And.intro hcell (And.intro hp hA1)))
      clear hc hcell hp hA1
      go_wp2_with fail
      exact ⟨⟨k + 1, by omega, by go_num, by rw [HS.out]; go_num⟩, by simp [RowKit.intOf]; omega⟩
    · obtain rfl : k = P.length := by omega
      rw [List.take_length]
      have HH := Lib.hid (And.intro hc (And.intro hp hl))
      clear hc hp hl
      go_wp2_with fail
      refine (HG.out _).mono ?_
      rintro e w1 ⟨v1, rfl, hown1, hb1⟩
      have hnn : (P.length : Int) ≤ 1000 := by omega
      have HO := Lib.hid (And.intro hown1 hb1)
      clear hown1 hb1
      go_wp2_with fail
      go_loopw [6, 27] (fun sv iv wr => ∃ k : Nat, k ≤ P.length ∧ iv = .int .i64 k ∧ wr.ownsRow w.heap.size 126 4 sv (flatI (P.take k)).length (ilist (flatI (P.take k))) ∧ Below w.heap.size w wr) (fun _ iv _ => P.length - (RowKit.intOf iv).toNat)
      case atStart => exact ⟨0, Nat.zero_le _, rfl, HO.out.1, HO.out.2⟩
      case round =>
        obtain ⟨k, hk, rfl, hown, hbl⟩ := hrel
        have hbs := hbl.size
        by_cases hlt : k < P.length
        · obtain ⟨hc, hp, hl⟩ := HH.out
          obtain ⟨b, off, rfl, hbb, hcell⟩ := hc (by omega)
          have hck : wr.cell? ⟨b, off + k, none⟩ = some P[k].1 := (hbl.cell (p := ⟨b, off + k, none⟩) hbb).trans (hcell k P[k].1 (by simp [hlt]))
          have hpk := (hp P[k] (by simp)).below hbl
          have htk1 := flatI_take P (k + 1)
          have HS : flatI (P.take (k + 1)) = flatI (P.take k) ++ P[k].2 := by rw [List.take_succ_eq_append_getElem hlt, flatI_snoc]
          have hle : (flatI (P.take k)).length + P[k].2.length ≤ 1000000 := by
            have := congrArg List.length HS
            rw [List.length_append] at this
            omega
          generalize P[k] = p at *
          generalize flatI (P.take k) = xs at *
          have HSH := Lib.hid (And.intro HS (And.intro hbl hown))
          obtain ⟨A1, c1, hA1⟩ := hpk.form
          rw [hA1] at hck hpk
          clear hc hcell hp HS hl hbl hA1
          go_wp2_with (at_builtin; refine append_its rfl _ _ rfl w.heap.size _ u6 xs rfl hown _ (.slice A1 p.2.length c1) rfl p.2 hpk hle hbs ?_; intro v2 w2 hown2 hb2)
          rw [← HSH.out.1] at hown2
          go_roundw
          case rel => exact ⟨k + 1, by omega, by go_num, hown2, HSH.out.2.1.trans hb2⟩
          case measure => simp [RowKit.intOf]; omega
        · obtain rfl : k = P.length := by omega
          rw [List.take_length] at hown
          go_wp2_with fail
          go_ret
          exact ⟨_, rfl, hown, hbl⟩
end Go.Proofs.YtpoocbkligjgbaaGreatDoor
