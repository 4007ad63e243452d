/-
  Walks over package leaf: Fits, Put. Walks over package leaf: Put.
-/
import Derived.Test.YtpfifmjcmpankaaGreatMg17
import Derived.Test.YtpfifmjcmpankaaGreatMg18
import Derived.Test.YtpfifmjcmpankaaGreatShelf3
namespace Go.Proofs.YtpfifmjcmpankaaGreat
open Go.RowKit Go.Lib

theorem bld_below {B b : Nat} {bs : List Value} {w w' : World} (h : IsBuilder 82 5 B b bs w) (hb : Below w.heap.size w w') : IsBuilder 82 5 B b bs w' := by
  rcases h with ⟨h1, v, h2, h3, h4⟩ | ⟨h1, v, h2, h3, h4⟩
  · exact .inl ⟨h1, v, (hb.block b (lt_of_block h2)).trans h2, row_kept (F := []) h3 (Kept.of_below hb) (fun g _ hF => by simp at hF), h4⟩
  · exact .inr ⟨h1, v, (hb.block b (lt_of_block h2)).trans h2, row_kept (F := []) h3 (Kept.of_below hb) (fun g _ hF => by simp at hF), h4⟩

theorem okl_sz {l : List Itm} (h : OKL l) (hl : l.length ≤ 35184372088832) : sz l ≤ 4611686018427387904 := by
  have := right_sz h.1
  omega

set_option maxRecDepth 100000 in
set_option maxHeartbeats 1000000 in
theorem fits_any (v : Value) (l : List Itm) (w : World) (hr : ReadsIt w w.heap.size v l) (hl : l.length ≤ 35184372088832) :
    Calls Tryz.prog 15 #[v] w fun e w' => e = .returned (.bool (decide (OKL l ∧ sz l ≤ 240))) ∧ Below w.heap.size w w' := by
  have ha := allRight_any v l w hr
  by_cases hok : OKL l
  · have hs := fun w1 (hb : Below w.heap.size w w1) => size_any v l w1 (hr.grow hb hb.size) (fun x hx => right_ok (hok.1 x hx)) (okl_sz hok hl)
    have e1 : decide (OKL l ∧ sz l ≤ 240) = decide (sz l ≤ 240) := by simp [hok]
    rw [decide_eq_true hok] at ha
    rw [e1]
    have hsz := okl_sz hok hl
    generalize sz l = n at *
    have HS := Lib.hid hs
    clear hs e1 hok
    go_enter Tryz.func15, Tryz.ntmps15
    go_wp2_with fail
    refine ha.mono ?_
    rintro e w1 ⟨rfl, hb1⟩
    clear ha hr
    go_wp2_with fail
    refine (HS.out _ hb1).mono ?_
    rintro e w2 ⟨rfl, hb2⟩
    go_wp2_with fail
    all_goals
      go_ret
      exact ⟨ret_bool (by first | rfl | (simp; done) | (simp; omega)), hb1.trans (hb2.mono hb1.size)⟩
  · have e1 : decide (OKL l ∧ sz l ≤ 240) = false := by simp [hok]
    rw [decide_eq_false hok] at ha
    rw [e1]
    clear e1 hok hr
    go_enter Tryz.func15, Tryz.ntmps15
    go_wp2_with fail
    refine ha.mono ?_
    rintro e w1 ⟨rfl, hb1⟩
    clear ha
    go_wp2_with fail
    go_ret
    exact ⟨rfl, hb1⟩
end Go.Proofs.YtpfifmjcmpankaaGreat

namespace Go.Proofs.YtpfifmjcmpankaaGreat
open Go.RowKit Go.Lib

/-- The bytes of one text, as a text. -/
def textS (s : ByteArray) : ByteArray := ⟨(textB s).toArray⟩
theorem textS_list (s : ByteArray) : (textS s).data.toList = textB s := by simp [textS]
theorem textS_size (s : ByteArray) : (textS s).size = (textB s).length := by simp [textS, ByteArray.size]
theorem boolS_list (b : Bool) : (boolS b).data.toList = [if b then 1 else 0] := rfl
theorem text1_any (g : Nat) (s : ByteArray) (w : World) (hs : s.size ≤ 1000000) (hc : w.cell? ⟨g, 0, none⟩ = some (.string s)) :
    Calls Tryz.prog 51 #[.slice (some ⟨g, 0, none⟩) 1 1] w fun e w' => e = .returned (.string (textS s)) ∧ Below w.heap.size w w' := by
  have hr : Reads1 w w.heap.size (.slice (some ⟨g, 0, none⟩) 1 1) ([s].map Value.string) := by
    refine ⟨_, _, rfl, fun _ => ⟨g, 0, rfl, World.block_lt_of_cell? w _ hc, fun j u hu => ?_⟩⟩
    match j, hu with
    | 0, hu => simp at hu; subst hu; exact hc
    | j + 1, hu => simp at hu
  have h := text_any _ [s] w hr (by simp) (by simp [sizes]; omega)
  have e1 : (⟨(textsB [s]).toArray⟩ : ByteArray) = textS s := by simp [textsB, textS]
  rw [e1] at h
  exact h
/-- WriteString, in a world that has grown out of one in which the builder is known. -/
theorem put_write {B : Nat} {m : List UInt8} {wr W : World} (s : ByteArray) (h : IsBuilder 82 5 B B (byteCells m) wr) (hb : Below wr.heap.size wr W) (hm : m.length ≤ 1000000) (hs : s.size ≤ 1000000) :
    Calls Tryz.prog 50 #[.pointer (some ⟨B, 0, none⟩), .string s] W fun e w' => e = .returned (.tuple #[.int .i64 s.size, .nilIface]) ∧ IsBuilder 82 5 B B (byteCells (m ++ s.data.toList)) w' ∧ Below B W w' ∧ KeepsBut B W w' :=
  (bwrite_keeps s (bld_below h hb) hm hs).mono fun _ _ ⟨h1, h2, h3, h4⟩ => ⟨h1, .inr h2, h3, h4⟩
theorem held_has {B g : Nat} {x : Itm} {W w' : World} (hg : g ≠ B) (hk : KeepsBut B W w') (h : Has W g 24 #[.string x.key, .string x.val, .int .i64 x.over, .int .i64 x.size]) :
    Has w' g 24 #[.string x.key, .string x.val, .int .i64 x.over, .int .i64 x.size] := hk g _ _ hg (by decide) h

/-- The four cells of an item's box. -/
def BoxAt (W : World) (g : Nat) (x : Itm) : Prop := W.cell? ⟨g, 0, none⟩ = some (.string x.key) ∧ W.cell? ⟨g, 1, none⟩ = some (.string x.val) ∧ W.cell? ⟨g, 2, none⟩ = some (.int .i64 x.over) ∧ W.cell? ⟨g, 3, none⟩ = some (.int .i64 x.size)
theorem has_box {W : World} {g : Nat} {x : Itm} (h : Has W g 24 #[.string x.key, .string x.val, .int .i64 x.over, .int .i64 x.size]) : W.cell? ⟨g, 0, none⟩ = some (.string x.key) ∧ W.cell? ⟨g, 1, none⟩ = some (.string x.val) ∧ W.cell? ⟨g, 2, none⟩ = some (.int .i64 x.over) ∧ W.cell? ⟨g, 3, none⟩ = some (.int .i64 x.size) :=
  ⟨h.cell 0, h.cell 1, h.cell 2, h.cell 3⟩
abbrev IBox (W : World) (g : Nat) (x : Itm) : Prop := Has W g 24 #[.string x.key, .string x.val, .int .i64 x.over, .int .i64 x.size]
/-- What is laid for one item while its box stands: in worlds that have grown out of W0. -/
theorem it_text {W0 W : World} {g gb : Nat} {x : Itm} (h0 : IBox W0 gb x) (s : ByteArray) (hs : s.size ≤ 1000000) (hb : Below W0.heap.size W0 W) (hc : W.cell? ⟨g, 0, none⟩ = some (.string s)) :
    Calls Tryz.prog 51 #[.slice (some ⟨g, 0, none⟩) 1 1] W fun e w' => e = .returned (.string (textS s)) ∧ Below W0.heap.size W0 w' ∧ w'.cell? ⟨gb, 0, none⟩ = some (.string x.key) ∧ w'.cell? ⟨gb, 1, none⟩ = some (.string x.val) ∧ w'.cell? ⟨gb, 2, none⟩ = some (.int .i64 x.over) ∧ w'.cell? ⟨gb, 3, none⟩ = some (.int .i64 x.size) :=
  (text1_any g s W hs hc).mono fun _ _ ⟨h1, h2⟩ => ⟨h1, hb.trans (h2.mono hb.size), has_box (h0.below (hb.trans (h2.mono hb.size)) h0.inside)⟩
theorem it_else {W0 W : World} {gb : Nat} {x : Itm} (h0 : IBox W0 gb x) (hb : Below W0.heap.size W0 W) :
    Calls Tryz.prog 53 #[iagg x] W fun e w' => e = .returned (.bool (x.over != 0)) ∧ Below W0.heap.size W0 w' ∧ w'.cell? ⟨gb, 0, none⟩ = some (.string x.key) ∧ w'.cell? ⟨gb, 1, none⟩ = some (.string x.val) ∧ w'.cell? ⟨gb, 2, none⟩ = some (.int .i64 x.over) ∧ w'.cell? ⟨gb, 3, none⟩ = some (.int .i64 x.size) :=
  (else_any x W).mono fun _ _ ⟨h1, h2⟩ => ⟨h1, hb.trans (h2.mono hb.size), has_box (h0.below (hb.trans (h2.mono hb.size)) h0.inside)⟩
theorem it_write {B : Nat} {m : List UInt8} {W0 W : World} {gb : Nat} {x : Itm} (h0 : IBox W0 gb x) (hg : gb ≠ B) (h : IsBuilder 82 5 B B (byteCells m) W0) (hB : B ≤ W0.heap.size) (s : ByteArray) (hm : m.length ≤ 1000000) (hs : s.size ≤ 1000000) (hb : Below W0.heap.size W0 W) :
    Calls Tryz.prog 50 #[.pointer (some ⟨B, 0, none⟩), .string s] W fun e w' => e = .returned (.tuple #[.int .i64 s.size, .nilIface]) ∧ (IsBuilder 82 5 B B (byteCells (m ++ s.data.toList)) w' ∧ Below B W0 w' ∧ IBox w' gb x) ∧
      w'.cell? ⟨gb, 0, none⟩ = some (.string x.key) ∧ w'.cell? ⟨gb, 1, none⟩ = some (.string x.val) ∧ w'.cell? ⟨gb, 2, none⟩ = some (.int .i64 x.over) ∧ w'.cell? ⟨gb, 3, none⟩ = some (.int .i64 x.size) :=
  (put_write s h hb hm hs).mono fun _ _ ⟨h1, h2, h3, h4⟩ =>
    have h5 := held_has hg h4 (h0.below hb h0.inside)
    ⟨h1, ⟨h2, (hb.mono hB).trans h3, h5⟩, has_box h5⟩
theorem add_any (a b : ByteArray) (ha : a.size ≤ 1000000) (hb : b.size ≤ 1000000) (W : World) : (Op.stringOp .add a b).run Tryz.prog W = .ok (.string (a ++ b)) W := run_string_add_sum W a b (by omega)

set_option maxRecDepth 100000 in
set_option maxHeartbeats 2000000 in
theorem put_any (v : Value) (l : List Itm) (w : World) (hr : ReadsIt w w.heap.size v l) (hl : l.length ≤ 35184372088832) :
    Calls Tryz.prog 8 #[v] w fun e w' => e = .returned (.tuple #[.string ⟨(putB l).toArray⟩, .int .i64 (putE l)]) ∧ Below w.heap.size w w' := by
  have ha := allRight_any v l w hr
  obtain ⟨A, c, rfl⟩ := hr.form
  by_cases hok : OKL l
  · have hs := fun w1 (hb : Below w.heap.size w w1) => size_any (.slice A l.length c) l w1 (hr.grow hb hb.size) (fun x hx => right_ok (hok.1 x hx)) (okl_sz hok hl)
    rw [decide_eq_true hok] at ha
    by_cases hsz : sz l ≤ 240
    · have e1 : putE l = 0 := by unfold putE; rw [if_pos hok, if_pos hsz]
      have e2 : putB l = leafB l := by unfold putB; rw [if_pos ⟨hok, hsz⟩]
      rw [e1, e2]
      obtain ⟨n, hn⟩ : ∃ n, l.length = n := ⟨_, rfl⟩
      obtain ⟨T, hT⟩ : ∃ T, sz l = T := ⟨_, rfl⟩
      simp only [hT] at hs
      have hT240 : (T : Int) ≤ 240 := by omega
      rw [hn] at hr ha hs ⊢
      have HS := Lib.hid hs
      have HH := Lib.hid (And.intro hr (And.intro hok (And.intro hn hT)))
      clear hs hr hok hsz e1 e2 hT hl hn
      go_enter Tryz.func8, Tryz.ntmps8
      go_wp2_with fail
      refine ha.mono ?_
      rintro e w1 ⟨rfl, hb1⟩
      clear ha
      go_wp2_with fail
      refine (HS.out _ hb1).mono ?_
      rintro e w2 ⟨rfl, hb2⟩
      have hb2' := hb1.trans (hb2.mono hb1.size)
      clear hb1 hb2 HS
      go_wp2_with fail
      have hst := fresh_isBuilder 82 5 w2
      have hbz := ((Below.refl w2.heap.size w2).alloc (Nat.le_refl _) (.cells #[.pointer none, .slice none 0 0] 82))
      obtain ⟨B, hB⟩ : ∃ B, w2.heap.size = B := ⟨_, rfl⟩
      rw [hB] at hst hbz ⊢
      have HBB := Lib.hid (And.intro hB (And.intro hst (And.intro hb2' hbz)))
      clear hB hst hb2' hbz
      go_loopw [15] (fun iv wr => ∃ k : Nat, k ≤ n ∧ iv = .int .i64 k ∧ IsBuilder 82 5 B B (byteCells (leafB (l.take k))) wr ∧ Below B w2 wr) (fun iv _ => n - (RowKit.intOf iv).toNat)
      case atStart => exact ⟨0, Nat.zero_le _, rfl, by simpa [leafB, byteCells] using HBB.out.2.1, HBB.out.2.2.2⟩
      case round =>
        obtain ⟨k, hk, rfl, hbd, hbl⟩ := hrel
        have hBw : B < wr.heap.size := by
          rcases hbd with h | h
          · exact h.lt
          · exact h.lt
        by_cases hlt : k < n
        · obtain ⟨hr, hok, hn, hT⟩ := HH.out
          have hkl : k < l.length := by omega
          have hwr : Below w.heap.size w wr := HBB.out.2.2.1.trans (hbl.mono (by rw [← HBB.out.1]; exact HBB.out.2.2.1.size))
          obtain ⟨A', c', hv, _, hcm, _, hc⟩ := hr
          obtain ⟨b, off, hA, hbb, hcell⟩ := hc (by omega)
          subst hA
          cases hv
          obtain ⟨c0, c1, c2, c3⟩ := (hcell.below hwr hbb) k hkl
          have hri := hok.1 l[k] (by simp)
          have hts := (sz_take l (k + 1)).1
          have HS : Hid (leafB (l.take (k + 1)) = leafB (l.take k) ++ itemB l[k]) := Lib.hid (by rw [take_snoc1 l k hkl, leafB_snoc])
          have hm : (leafB (l.take k)).length ≤ 240 := by have := (sz_take l k).1; unfold sz at this hT; omega
          generalize l[k] = x at *
          generalize leafB (l.take k) = m at *
          obtain ⟨r1, r2, r3⟩ := right_cases hri
          have hn63 : (k : Int) < l.length := by omega
          have hn64 : (l.length : Int) ≤ 9223372036854775807 := by unfold maxLen at hcm; omega
          have HR := Lib.hid (And.intro hri (And.intro hbl (And.intro hbd (And.intro hwr r3))))
          clear hts hok hT hcell hcm hc hri hwr r3 hbl
          go_wp2_with fail
          obtain ⟨W0, hW0⟩ : ∃ W0, W0 = wr.alloc (iobj x) := ⟨_, rfl⟩
          rw [← hW0]
          have h0 : IBox W0 wr.heap.size x := by subst hW0; exact Has.made _ _ _
          have hwW0 : Below wr.heap.size wr W0 := by subst hW0; exact (Below.refl _ _).alloc (Nat.le_refl _) _
          have hbd0 := bld_below hbd hwW0
          have hs0 : wr.heap.size < W0.heap.size := h0.inside
          have hB0 : B ≤ W0.heap.size := by omega
          have hgB : wr.heap.size ≠ B := by omega
          have hks : (textS x.key).size ≤ 1000 := by rw [textS_size, textB_small (by omega)]; omega
          have hbo := boolS_size (x.over != 0)
          have hbx : ∀ W, Below W0.heap.size W0 W → W.cell? ⟨wr.heap.size, 0, none⟩ = some (.string x.key) ∧ W.cell? ⟨wr.heap.size, 1, none⟩ = some (.string x.val) ∧ W.cell? ⟨wr.heap.size, 2, none⟩ = some (.int .i64 x.over) ∧ W.cell? ⟨wr.heap.size, 3, none⟩ = some (.int .i64 x.size) := fun W h => has_box (h0.below h h0.inside)
          have HK := Lib.hid hbx
          have H1 := Lib.hid (fun W g hb hc => it_text (W := W) (g := g) h0 x.key (by omega) hb hc)
          have H2 := Lib.hid (fun W hb => it_else (W := W) h0 hb)
          have H3 := Lib.hid (fun W hb => it_write (W := W) h0 hgB hbd0 hB0 (textS x.key ++ boolS (x.over != 0)) (by omega) (by rw [ByteArray.size_append]; omega) hb)
          have hadd := add_any (textS x.key) (boolS (x.over != 0)) (by omega) (by omega)
          have hb0 := Below.refl W0.heap.size W0
          have HQ := Lib.hid (And.intro hwW0 (And.intro hbd0 (And.intro hB0 hgB)))
          clear hbx h0 hwW0 hbd0 hW0 hbo hks hgB hbd
          go_region_held3 (fun w' => w'.cell? ⟨wr.heap.size, 0, none⟩ = some (.string x.key) ∧ w'.cell? ⟨wr.heap.size, 1, none⟩ = some (.string x.val) ∧ w'.cell? ⟨wr.heap.size, 2, none⟩ = some (.int .i64 x.over) ∧ w'.cell? ⟨wr.heap.size, 3, none⟩ = some (.int .i64 x.size))
            (first | (refine ⟨?_, ?_, ?_, ?_⟩ <;> assumption) | exact HK.out _ (by first | assumption | exact Below.drew (by assumption) | exact Below.alloc (by assumption) (Nat.le_refl _) _ | exact Below.alloc (by assumption) (Below.size (w := W0) (by assumption)) _ | exact Below.drew (Below.alloc (by assumption) (Nat.le_refl _) _) | exact Below.drew (Below.alloc (by assumption) (Below.size (w := W0) (by assumption)) _))) (first
            | (go_at_call 51; ((with_reducible refine (H1.out _ _ (by first | assumption | exact Below.drew (by assumption) | exact Below.alloc (by assumption) (Nat.le_refl _) _ | exact Below.alloc (by assumption) (Below.size (w := W0) (by assumption)) _ | exact Below.drew (Below.alloc (by assumption) (Nat.le_refl _) _) | exact Below.drew (Below.alloc (by assumption) (Below.size (w := W0) (by assumption)) _)) ?_).mono ?_)); (go_simp); rintro e w3 ⟨rfl, hb3, f0, f1, f2, f3⟩)
            | (go_at_call 53; ((with_reducible refine (H2.out _ (by first | assumption | exact Below.drew (by assumption) | exact Below.alloc (by assumption) (Nat.le_refl _) _ | exact Below.alloc (by assumption) (Below.size (w := W0) (by assumption)) _ | exact Below.drew (Below.alloc (by assumption) (Nat.le_refl _) _) | exact Below.drew (Below.alloc (by assumption) (Below.size (w := W0) (by assumption)) _))).mono ?_)); rintro e w4 ⟨rfl, hb4, g0, g1, g2, g3⟩)
            | (go_at_call 52; ((with_reducible refine (boolS_any _ _).mono ?_)); rintro e w5 ⟨rfl, rfl⟩)
            | (go_at_call 50; ((with_reducible refine (H3.out _ (by first | assumption | exact Below.drew (by assumption) | exact Below.alloc (by assumption) (Nat.le_refl _) _ | exact Below.alloc (by assumption) (Below.size (w := W0) (by assumption)) _ | exact Below.drew (Below.alloc (by assumption) (Nat.le_refl _) _) | exact Below.drew (Below.alloc (by assumption) (Below.size (w := W0) (by assumption)) _))).mono ?_)); rintro e w6 ⟨rfl, hq6, e0, e1, e2, e3⟩))
          obtain ⟨m1, hm1⟩ : ∃ m1, m ++ (textS x.key ++ boolS (x.over != 0)).data.toList = m1 := ⟨_, rfl⟩
          obtain ⟨hbd6, hb6, hbox6⟩ := hq6
          rw [hm1] at hbd6
          have hm1l : m1.length ≤ 1000 := by
            have h1 := textS_size x.key
            have h2 := textB_small (s := x.key) (by omega)
            rw [← hm1]
            simp [ByteArray.size, textS, boolS] at h1 ⊢
            omega
          have hB6 : B ≤ w6.heap.size := Nat.le_trans hB0 hb6.size
          have H2' := Lib.hid (fun W hb => it_else (W0 := w6) (W := W) hbox6 hb)
          have hbd6' := Lib.hid hbd6
          have HB6 := Lib.hid (And.intro hb6 (And.intro hbox6 hm1))
          have h6 := Below.refl w6.heap.size w6
          clear H1 H2 H3 HK hbd6 hb6 hbox6 hadd hb0 hm1 hb3 hb4 f0 f1 f2 f3 g0 g1 g2 g3
          by_cases ho : x.over = 0
          · have hbo : (x.over != 0) = false := by simpa using ho
            have hib : itemB x = textB x.key ++ (0 :: textB x.val) := by unfold itemB; rw [if_pos ho, if_pos ho]
            have hvs : x.val.size ≤ 60 := by
              have := HR.out.2.2.2.2
              rcases this with h | h
              · exact h.2.2
              · omega
            rw [hbo] at H2'
            have HO := Lib.hid (And.intro ho (And.intro hbo hib))
            clear ho hbo hib
            go_wp2_with fail
            refine (H2'.out _ h6).mono ?_
            rintro e w7 ⟨rfl, hb7, f0, f1, f2, f3⟩
            clear e0 e1 e2 e3
            go_wp2_with fail
            refine (text1_any _ x.val _ (by omega) ?_).mono ?_
            · go_simp
            rintro e w8 ⟨rfl, hb8⟩
            have hb68 : Below w6.heap.size w6 w8 := (hb7.alloc hb7.size _).trans (hb8.mono (by have := hb7.size; simp; omega))
            clear f0 f1 f2 f3
            go_wp2_with fail
            refine (put_write (textS x.val) hbd6'.out hb68 (by omega) (by rw [textS_size, textB_small (by omega)]; omega)).mono ?_
            rintro e w9 ⟨rfl, hbd9, hb9, _⟩
            have HF := Lib.hid (And.intro hbd9 ((hb68.mono hB6).trans hb9))
            clear hbd9 hb9 hb68 hb7 hb8 h6
            go_wp2_with fail
            go_roundw
            case rel =>
              refine ⟨k + 1, by omega, by go_num, ?_, HR.out.2.1.trans ((HQ.out.1.mono (by omega)).trans (HB6.out.1.trans HF.out.2))⟩
              have h9 := HF.out.1
              have e9 : m1 ++ (textS x.val).data.toList = leafB (l.take (k + 1)) := by
                rw [HS.out, ← HB6.out.2.2, HO.out.2.2, HO.out.2.1, textS_list]
                simp [textS_list, boolS_list]
              rw [e9] at h9
              exact h9
            case measure => simp [RowKit.intOf]; omega
          · have hbo : (x.over != 0) = true := by simpa using ho
            have hib : itemB x = textB x.key ++ (1 :: varsB [x.over, x.size]) := by unfold itemB; rw [if_neg ho, if_neg ho]
            have hin := right_ok HR.out.1
            have hvl := varsB_len [x.over, x.size] (by intro y hy; simp at hy; rcases hy with rfl | rfl; exact hin.2.2.1; exact hin.2.2.2)
            have HV := Lib.hid (fun g W hc hd => var2_any g x.over x.size W hin.2.2.1 hin.2.2.2 hc hd)
            rw [hbo] at H2'
            have HO := Lib.hid (And.intro ho (And.intro hbo hib))
            clear ho hbo hib hin
            generalize hVb : varsB [x.over, x.size] = Vb at *
            have HVb := Lib.hid hVb
            clear hVb
            have hVs : (⟨Vb.toArray⟩ : ByteArray).size ≤ 1000 := by simp [ByteArray.size]; simp at hvl; omega
            have hVd : (⟨Vb.toArray⟩ : ByteArray).data.toList = Vb := by simp
            have HVd := Lib.hid hVd
            clear hVd hvl
            generalize (⟨Vb.toArray⟩ : ByteArray) = Vs at *
            go_wp2_with fail
            refine (H2'.out _ h6).mono ?_
            rintro e w7 ⟨rfl, hb7, f0, f1, f2, f3⟩
            clear e0 e1 e2 e3
            go_wp2_with fail
            refine (HV.out _ _ ?_ ?_).mono ?_
            · go_simp
            · go_simp
            rintro e w8 ⟨rfl, hb8⟩
            have hb68 : Below w6.heap.size w6 w8 := (hb7.alloc hb7.size _).trans (hb8.mono (by have := hb7.size; simp; omega))
            clear f0 f1 f2 f3
            go_wp2_with fail
            refine (put_write Vs hbd6'.out hb68 (by omega) (by omega)).mono ?_
            rintro e w9 ⟨rfl, hbd9, hb9, _⟩
            have HF := Lib.hid (And.intro hbd9 ((hb68.mono hB6).trans hb9))
            clear hbd9 hb9 hb68 hb7 hb8 h6
            go_wp2_with fail
            go_roundw
            case rel =>
              refine ⟨k + 1, by omega, by go_num, ?_, HR.out.2.1.trans ((HQ.out.1.mono (by omega)).trans (HB6.out.1.trans HF.out.2))⟩
              have h9 := HF.out.1
              have e9 : m1 ++ Vs.data.toList = leafB (l.take (k + 1)) := by
                rw [HS.out, ← HB6.out.2.2, HO.out.2.2, HO.out.2.1, HVd.out, ← HVb.out]
                simp [textS_list, boolS_list]
              rw [e9] at h9
              exact h9
            case measure => simp [RowKit.intOf]; omega
        · obtain rfl : k = n := by omega
          obtain ⟨hr, hok, hn, hT⟩ := HH.out
          rw [← hn, List.take_length] at hbd
          have hst := Tryz.Builder_String_any B B _ wr hbd (by omega)
          have hbf := HBB.out.2.2.1.trans (hbl.mono (by rw [← HBB.out.1]; exact HBB.out.2.2.1.size))
          have HR := Lib.hid (And.intro hbf (And.intro HBB.out.1 (And.intro HBB.out.2.2.1 hbl)))
          clear hr hok hn hT hbd hbf hbl
          go_wp2_with fail
          refine hst.mono ?_
          rintro e w1 ⟨rfl, hb1⟩
          have H1 := Lib.hid hb1
          clear hb1 hst
          go_wp2_with fail
          go_ret2
          exact ⟨rfl, HR.out.1.trans (H1.out.mono (by rw [← HR.out.2.1]; exact HR.out.2.2.1.size))⟩
    · have e1 : putE l = 2 := by unfold putE; rw [if_pos hok, if_neg hsz]
      have e2 : putB l = [] := by unfold putB; rw [if_neg (fun h => hsz h.2)]
      rw [e1, e2]
      have h240 : (240 : Int) < (sz l : Nat) := by omega
      generalize sz l = T at *
      generalize l.length = n at *
      have HS := Lib.hid hs
      clear hs hr hok hsz e1 e2 hl
      go_enter Tryz.func8, Tryz.ntmps8
      go_wp2_with fail
      refine ha.mono ?_
      rintro e w1 ⟨rfl, hb1⟩
      clear ha
      go_wp2_with fail
      refine (HS.out _ hb1).mono ?_
      rintro e w2 ⟨rfl, hb2⟩
      have hb2' := hb1.trans (hb2.mono hb1.size)
      clear hb1 hb2 HS
      go_wp2_with fail
      go_ret2
      exact ⟨rfl, hb2'⟩
  · have e1 : putE l = 1 := by unfold putE; rw [if_neg hok]
    have e2 : putB l = [] := by unfold putB; rw [if_neg (fun h => hok h.1)]
    rw [decide_eq_false hok] at ha
    rw [e1, e2]
    generalize l.length = n at *
    clear hok e1 e2 hr
    go_enter Tryz.func8, Tryz.ntmps8
    go_wp2_with fail
    refine ha.mono ?_
    rintro e w1 ⟨rfl, hb1⟩
    clear ha
    go_wp2_with fail
    go_ret2
    exact ⟨rfl, hb1⟩
end Go.Proofs.YtpfifmjcmpankaaGreat
