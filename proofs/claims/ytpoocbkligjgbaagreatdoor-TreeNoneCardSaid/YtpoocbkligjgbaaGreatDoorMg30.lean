/-
  Walks over package branch: textSize. Walks over package branch: Size. Walks over package branch: allRight. Walks over package branch: Fits, Put. Walks over package branch: Put. Walks over slices.Grow and slices.Concat of children.
-/
import Derived.Test.YtpoocbkligjgbaaGreatDoorMg29
import Derived.Test.YtpoocbkligjgbaaGreatDoorMg21
import Derived.Test.YtpoocbkligjgbaaGreatDoorMg7
import Derived.Deep.QuietTactic
import Derived.BigQuiet
import Derived.Deep.RegionHeld3
import Derived.StillTailTactics
import Derived.IntWalk
import Derived.Test.YtpoocbkligjgbaaGreatDoorMg24
import Derived.Laws.Cover1
import Derived.Test.YtpoocbkligjgbaaGreatDoorShelf3
import Derived.Laws.AppendOwn
import Derived.Laws.AppendOwnNone
import Derived.Laws.OwnMore
import Derived.Lib.AppendZeros
namespace Go.Proofs.YtpoocbkligjgbaaGreatDoor.BR
open Go.RowKit Go.Lib

/-- The bytes of one number, as a text. -/
def varS (n : Int) : ByteArray := ⟨(uvarint (zigzag n)).toArray⟩
theorem varS_size (n : Int) : (varS n).size = (uvarint (zigzag n)).length := by simp [varS, ByteArray.size]
theorem var1_any (g : Nat) (n : Int) (w : World) (hi : IsInt n) (hc : w.cell? ⟨g, 0, none⟩ = some (.int .i64 n)) :
    Calls Tryz.prog 197 #[.slice (some ⟨g, 0, none⟩) 1 1] w fun e w' => e = .returned (.string (varS n)) ∧ Below w.heap.size w w' := by
  have hr : Reads1 w w.heap.size (.slice (some ⟨g, 0, none⟩) 1 1) ([n].map (Value.int .i64)) := by
    refine ⟨_, _, rfl, fun _ => ⟨g, 0, rfl, World.block_lt_of_cell? w _ hc, fun j u hu => ?_⟩⟩
    match j, hu with
    | 0, hu => simp at hu; subst hu; exact hc
    | j + 1, hu => simp at hu
  have h := var_any _ [n] w hr (by simp) (by intro x hx; simp at hx; subst hx; exact hi)
  have e1 : varsB [n] = uvarint (zigzag n) := by simp [varsB]
  rw [e1] at h
  exact h
set_option maxRecDepth 100000 in
set_option maxHeartbeats 400000 in
theorem tsize_any (s : ByteArray) (w : World) (hs : s.size ≤ 4611686018427387904) : Calls Tryz.prog 286 #[.string s] w fun e w' => e = .returned (.int .i64 ((textB s).length : Nat)) ∧ Below w.heap.size w w' := by
  have hv := fun g w => var1_any g (s.size : Int) w ⟨by omega, by omega⟩
  have hu := uvarint_length64 (zigzag_lt (x := (s.size : Int)) (by omega) (by omega))
  have hl : (textB s).length = (uvarint (zigzag (s.size : Int))).length + s.size := by
    have h2 : s.data.toList.length = s.size := by simp
    unfold textB
    rw [List.length_append, h2]
  have hz := varS_size (s.size : Int)
  rw [← hz] at hu hl
  generalize varS (s.size : Int) = U at *
  generalize (textB s).length = T at *
  have HV := Lib.hid hv
  have HL := Lib.hid hl
  clear hv hl hz
  go_enter Tryz.func286, Tryz.ntmps286
  go_wp2_with fail
  refine (HV.out _ _ ?_).mono ?_
  · go_simp
  rintro e w1 ⟨rfl, hb1⟩
  go_wp2
  go_ret
  exact ⟨ret_i64 (by have := HL.out; omega), ((Below.refl _ _).alloc (Nat.le_refl _) _).trans (hb1.mono (by simp))⟩

/-- The box of a child, in a world where nothing that was there has turned. -/
theorem box_cells {w w1 : World} (x : Chd) (hb : Below (w.heap.size + 1) (w.alloc (iobj x)) w1) :
    w1.cell? ⟨w.heap.size, 0, none⟩ = some (.string x.key) ∧ w1.cell? ⟨w.heap.size, 1, none⟩ = some (.int .i64 x.page) := by
  have hm := (Has.made w 204 #[.string x.key, .int .i64 x.page]).below hb (by omega)
  exact ⟨hm.cell 0, hm.cell 1⟩
end Go.Proofs.YtpoocbkligjgbaaGreatDoor.BR

namespace Go.Proofs.YtpoocbkligjgbaaGreatDoor.BR
open Go.RowKit Go.Lib

/-- What is held of a child's box while nothing else turns. -/
theorem held_box {wr W0 : World} {x : Chd} (h : W0 = wr.alloc (iobj x)) : ∀ W, Below W0.heap.size W0 W → W.cell? ⟨wr.heap.size, 0, none⟩ = some (.string x.key) ∧ W.cell? ⟨wr.heap.size, 1, none⟩ = some (.int .i64 x.page) := by
  subst h
  intro W h
  exact box_cells x (by simpa using h)

theorem bcell {W w1 : World} (hb : Below W.heap.size W w1) : ∀ b o, b < W.heap.size → w1.cell? ⟨b, o, none⟩ = W.cell? ⟨b, o, none⟩ :=
  fun b o h => hb.cell (p := ⟨b, o, none⟩) h
theorem item_len (x : Chd) : (itemB x).length = (textB x.key).length + (uvarint (zigzag x.page)).length ∧ x.key.size + 1 ≤ (textB x.key).length := by
  have := textB_len x.key
  unfold itemB
  rw [List.length_append]
  omega

set_option maxRecDepth 100000 in
set_option maxHeartbeats 1000000 in
theorem size_any (v : Value) (l : List Chd) (w : World) (hr : ReadsIt w w.heap.size v l) (hok : ∀ x ∈ l, x.ok) (hs : sz l ≤ 4611686018427387904) :
    Calls Tryz.prog 250 #[v] w fun e w' => e = .returned (.int .i64 (sz l : Nat)) ∧ Below w.heap.size w w' := by
  obtain ⟨A, c, rfl, hlc, hcm, _, hc⟩ := hr
  have hl63 : l.length ≤ 9223372036854775807 := by unfold maxLen at hcm; omega
  clear hlc hcm
  go_enter Tryz.func250, Tryz.ntmps250
  go_wp2
  go_loopw [3, 8] (fun n i wr => ∃ k : Nat, k ≤ l.length ∧ i = .int .i64 k ∧ n = .int .i64 (sz (l.take k) : Nat) ∧ Below w.heap.size w wr) (fun _ i _ => l.length - (RowKit.intOf i).toNat)
  case atStart => exact ⟨0, Nat.zero_le _, rfl, rfl, Below.refl _ _⟩
  case round =>
    obtain ⟨k, hk, rfl, rfl, hbl⟩ := hrel
    have hbs := hbl.size
    by_cases hlt : k < l.length
    · obtain ⟨b, off, rfl, hbb, hcell⟩ := hc (by omega)
      obtain ⟨c0, c1⟩ := (hcell.below hbl hbb) k hlt
      have hx := hok l[k] (by simp)
      have hts := (sz_take l (k + 1)).1
      rw [take_snoc1 l k hlt, sz_snoc] at hts
      have HS : Hid (sz (l.take (k + 1)) = sz (l.take k) + (itemB l[k]).length) := Lib.hid (by rw [take_snoc1 l k hlt, sz_snoc])
      generalize l[k] = x at *
      obtain ⟨hkl, hkl2⟩ := item_len x
      have hvz := varS_size x.page
      rw [← hvz] at hkl
      clear hc hcell
      go_wp2_with fail
      obtain ⟨W0, hW0⟩ : ∃ W0, W0 = wr.alloc (iobj x) := ⟨_, rfl⟩
      have hbx := held_box hW0
      have h0 : Below wr.heap.size wr W0 := by subst hW0; exact (Below.refl _ _).alloc (Nat.le_refl _) _
      have hb0 := Below.refl W0.heap.size W0
      obtain ⟨d0, d1⟩ := hbx W0 hb0
      rw [← hW0]
      have H1 := Lib.hid (fun W (h : Below W0.heap.size W0 W) => (tsize_any x.key W (by omega)).mono fun e w' ⟨h1, h2⟩ => (⟨h1, h2, h.trans (h2.mono h.size), hbx w' (h.trans (h2.mono h.size))⟩ : e = _ ∧ Below W.heap.size W w' ∧ Below W0.heap.size W0 w' ∧ _))
      have H2 := Lib.hid (fun W g (h : Below W0.heap.size W0 W) hc => (var1_any g x.page W hx.2 hc).mono fun e w' ⟨h1, h2⟩ => (⟨h1, h.trans (h2.mono h.size), hbx w' (h.trans (h2.mono h.size))⟩ : e = _ ∧ Below W0.heap.size W0 w' ∧ _))
      have HK := Lib.hid hbx
      have HB := Lib.hid (And.intro hbx h0)
      generalize varS x.page = U at *
      have hU : (textB x.key).length + U.size ≤ 4611686018427387904 := by omega
      clear hW0 hbx h0 hvz
      go_region_held3 (fun w' => w'.cell? ⟨wr.heap.size, 0, none⟩ = some (.string x.key) ∧ w'.cell? ⟨wr.heap.size, 1, none⟩ = some (.int .i64 x.page))
        (first | (refine ⟨?_, ?_⟩ <;> assumption) | exact HK.out _ (by first | assumption | exact Below.drew (by assumption) | exact Below.alloc (by assumption) (Nat.le_refl _) _ | exact Below.alloc (by assumption) (Below.size (w := W0) (by assumption)) _ | exact Below.drew (Below.alloc (by assumption) (Nat.le_refl _) _) | exact Below.drew (Below.alloc (by assumption) (Below.size (w := W0) (by assumption)) _))) (first
        | (go_at_call 286; ((with_reducible refine (H1.out _ (by first | assumption | exact Below.drew (by assumption) | exact Below.alloc (by assumption) (Nat.le_refl _) _ | exact Below.alloc (by assumption) (Below.size (w := W0) (by assumption)) _ | exact Below.drew (Below.alloc (by assumption) (Nat.le_refl _) _) | exact Below.drew (Below.alloc (by assumption) (Below.size (w := W0) (by assumption)) _))).mono ?_)); rintro e w1 ⟨rfl, hq1, hb1, f0, f1⟩; have q1 := bcell hq1; clear hq1)
        | (go_at_call 197; ((with_reducible refine (H2.out _ _ (by first | assumption | exact Below.drew (by assumption) | exact Below.alloc (by assumption) (Nat.le_refl _) _ | exact Below.alloc (by assumption) (Below.size (w := W0) (by assumption)) _ | exact Below.drew (Below.alloc (by assumption) (Nat.le_refl _) _) | exact Below.drew (Below.alloc (by assumption) (Below.size (w := W0) (by assumption)) _)) ?_).mono ?_)); (go_simp); rintro e w2 ⟨rfl, hb2, g0, g1⟩))
      all_goals
        have e1 : IntKind.i64.wrap (↑(sz (List.take k l)) + IntKind.i64.wrap (↑(textB x.key).length + ↑U.size)) = ((sz (l.take (k + 1)) : Nat) : Int) := by
          rw [IntWalk.i64_in (((textB x.key).length : Int) + (U.size : Int)) (by omega), IntWalk.i64_in _ (by omega)]
          rw [HS.out, hkl]
          omega
        go_wp2
        refine ⟨⟨k + 1, by omega, by go_num, by rw [e1], hbl.trans ((HB.out.2.trans (hb2.mono HB.out.2.size)).mono hbs)⟩, by simp [RowKit.intOf]; omega⟩
    · obtain rfl : k = l.length := by omega
      rw [List.take_length]
      go_wp2
      go_ret
      exact ⟨rfl, hbl⟩
end Go.Proofs.YtpoocbkligjgbaaGreatDoor.BR

namespace Go.Proofs.YtpoocbkligjgbaaGreatDoor.BR
open Go.RowKit Go.Lib

/-- As far as one has looked all is right. -/
def UpTo (l : List Chd) (k : Nat) : Prop := (∀ x ∈ l.take k, rightB x = true) ∧ Rise (l.take k)
theorem upTo_next {l : List Chd} {k : Nat} (hk : k < l.length) (h : UpTo l k) (hr : rightB l[k] = true) (hl : ∀ h : 0 < k, ltK (l[k - 1]'(by omega)).key l[k].key = true) : UpTo l (k + 1) := by
  refine ⟨fun x hx => ?_, rise_take hk h.2 hl⟩
  rw [take_snoc1 l k hk, List.mem_append] at hx
  rcases hx with hx | hx
  · exact h.1 x hx
  · simp at hx
    rw [hx]
    exact hr

set_option maxRecDepth 100000 in
set_option maxHeartbeats 1000000 in
theorem allRight_any (v : Value) (l : List Chd) (w : World) (hr : ReadsIt w w.heap.size v l) :
    Calls Tryz.prog 252 #[v] w fun e w' => e = .returned (.bool (decide (OKL l))) ∧ Below w.heap.size w w' := by
  obtain ⟨A, c, rfl, hlc, hcm, _, hc⟩ := hr
  have hl63 : l.length ≤ 9223372036854775807 := by unfold maxLen at hcm; omega
  clear hlc hcm
  obtain ⟨T, hT⟩ : ∃ T, decide (OKL l) = T := ⟨_, rfl⟩
  rw [hT]
  have HT := Lib.hid hT
  clear hT
  by_cases h0 : l.length = 0
  · have HTF := Lib.hid (HT.out.symm.trans (decide_eq_false fun h => by have := h.pos; omega))
    have hz : ((l.length : Int) == 0) = true := by rw [h0]; rfl
    clear hc
    go_enter Tryz.func252, Tryz.ntmps252
    go_wp2_with fail
    go_ret
    exact ⟨ret_bool HTF.out.symm, Below.refl _ _⟩
  · have hz : ((l.length : Int) == 0) = false := by rw [beq_eq_false_iff_ne]; omega
    obtain ⟨b, off, rfl, hbb, hcell⟩ := hc (by omega)
    clear hc
    obtain ⟨c0, c1⟩ := hcell 0 (by omega)
    have hpos : 0 < l.length := by omega
    have hposI : (0 : Int) < (l.length : Int) := by omega
    by_cases hk0 : l[0].key = ⟨#[]⟩
    · rw [hk0] at c0
      simp only [Nat.zero_mul, Nat.add_zero] at c0
      have HK0 := Lib.hid hk0
      have HCC := Lib.hid hcell
      clear hk0 h0 c1 hcell
      go_enter Tryz.func252, Tryz.ntmps252
      go_wp2_with fail
      go_loopw [17] (fun i wr => ∃ k : Nat, k ≤ l.length ∧ i = .int .i64 k ∧ UpTo l k ∧ Below w.heap.size w wr) (fun i _ => l.length - (RowKit.intOf i).toNat)
      case atStart => exact ⟨0, Nat.zero_le _, rfl, ⟨fun x hx => by simp at hx, List.Pairwise.nil⟩, Below.refl _ _⟩
      case round =>
        obtain ⟨k, hk, rfl, hok, hbl⟩ := hrel
        have hbs := hbl.size
        clear c0
        by_cases hlt : k < l.length
        · have hcb := HCC.out.below hbl hbb
          obtain ⟨c0, c1⟩ := hcb k hlt
          have hkI : (k : Int) < (l.length : Int) := by omega
          have hk00 : (0 : Int) ≤ (k : Int) := by omega
          by_cases hri : rightB l[k] = true
          · have hnx := upTo_next hlt hok hri
            obtain ⟨r1, r2, r3⟩ := right_cases hri
            have hHN := Lib.hid hnx
            have HB := Lib.hid (And.intro hok hbl)
            clear hok hbl hnx hri
            by_cases hk0 : k = 0
            · have hkn : ¬ ((0 : Int) < (k : Int)) := by omega
              have hkn2 : ¬ 0 < k := by omega
              have hk0H := Lib.hid hk0
              generalize l[k] = x at *
              clear hk0 hcb
              go_wp2_with fail
              obtain ⟨W0, hW0⟩ : ∃ W0, W0 = wr.alloc (iobj x) := ⟨_, rfl⟩
              have hbx := held_box hW0
              have h0 : Below wr.heap.size wr W0 := by subst hW0; exact (Below.refl _ _).alloc (Nat.le_refl _) _
              obtain ⟨d0, d1⟩ := hbx W0 (Below.refl _ _)
              rw [← hW0]
              have HW := Lib.hid (And.intro hbx h0)
              clear hW0 hbx h0
              have f0 := cell_gw d0
              have f1 := cell_gw d1
              refine wp_region_gw (by kernel_rfl) (by kernel_rfl) ?_
              repeat (refine wq_step (fun K hK => ?_); go_simp; (refine hK _ ?_; clear hK K))
              refine wq_nil ?_
              intro w1 hw1
              replace hw1 := gw_to hw1
              clear f0 f1 d0 d1 c0 c1
              go_wp2_with fail
              go_roundw
              case rel => exact ⟨k + 1, by omega, by go_num, hHN.out (fun h => absurd h (by have := hk0H.out; omega)), HB.out.2.trans ((HW.out.2.mono hbs).trans (hw1.mono (Nat.le_trans hbs HW.out.2.size)))⟩
              case measure => simp [RowKit.intOf]; omega
            · obtain ⟨j, rfl⟩ : ∃ j, k = j + 1 := ⟨k - 1, by omega⟩
              obtain ⟨b0, _⟩ := hcb j (by omega)
              have hjb : (0 : Int) ≤ j := by omega
              have hjl : (j : Int) < (l.length : Int) := by omega
              have hjl2 : j < l.length := by omega
              have hwj : IntKind.i64.wrap (j : Int) = (j : Int) := by rw [IntKind.wrap_i64]; omega
              clear hcb hk0
              cases hlk : ltK l[j].key l[j + 1].key
              · have HTF := Lib.hid (HT.out.symm.trans (decide_eq_false fun h2 => by have h3 := h2.2.2.at (i := j) (j := j + 1) (by omega) (by omega); rw [hlk] at h3; cases h3))
                generalize l[j + 1] = x at *
                generalize l[j] = y at *
                unfold ltK at hlk
                go_wp2_with fail
                obtain ⟨W0, hW0⟩ : ∃ W0, W0 = wr.alloc (iobj x) := ⟨_, rfl⟩
                have hbx := held_box hW0
                have h0 : Below wr.heap.size wr W0 := by subst hW0; exact (Below.refl _ _).alloc (Nat.le_refl _) _
                obtain ⟨d0, d1⟩ := hbx W0 (Below.refl _ _)
                have e4 : W0.cell? ⟨b, off + j * 2, none⟩ = some (.string y.key) := (h0.cell (p := ⟨b, off + j * 2, none⟩) (Nat.lt_of_lt_of_le hbb hbs)).trans b0
                rw [← hW0]
                have HW := Lib.hid (And.intro hbx h0)
                clear hW0 hbx h0
                have f0 := cell_gw d0
                have f1 := cell_gw d1
                have f4 := cell_gw e4
                refine wp_region_gw (by kernel_rfl) (by kernel_rfl) ?_
                repeat (refine wq_step (fun K hK => ?_); go_simp; (refine hK _ ?_; clear hK K))
                refine wq_nil ?_
                intro w1 hw1
                replace hw1 := gw_to hw1
                clear f0 f1 f4 e4 b0 d0 d1 c0 c1
                go_wp2_with fail
                go_ret
                exact ⟨ret_bool HTF.out.symm, HB.out.2.trans ((HW.out.2.mono hbs).trans (hw1.mono (Nat.le_trans hbs HW.out.2.size)))⟩
              · have hHN2 := Lib.hid (hHN.out (fun _ => hlk))
                clear hHN
                generalize l[j + 1] = x at *
                generalize l[j] = y at *
                unfold ltK at hlk
                go_wp2_with fail
                obtain ⟨W0, hW0⟩ : ∃ W0, W0 = wr.alloc (iobj x) := ⟨_, rfl⟩
                have hbx := held_box hW0
                have h0 : Below wr.heap.size wr W0 := by subst hW0; exact (Below.refl _ _).alloc (Nat.le_refl _) _
                obtain ⟨d0, d1⟩ := hbx W0 (Below.refl _ _)
                have e4 : W0.cell? ⟨b, off + j * 2, none⟩ = some (.string y.key) := (h0.cell (p := ⟨b, off + j * 2, none⟩) (Nat.lt_of_lt_of_le hbb hbs)).trans b0
                rw [← hW0]
                have HW := Lib.hid (And.intro hbx h0)
                clear hW0 hbx h0
                have f0 := cell_gw d0
                have f1 := cell_gw d1
                have f4 := cell_gw e4
                refine wp_region_gw (by kernel_rfl) (by kernel_rfl) ?_
                repeat (refine wq_step (fun K hK => ?_); go_simp; (refine hK _ ?_; clear hK K))
                refine wq_nil ?_
                intro w1 hw1
                replace hw1 := gw_to hw1
                clear f0 f1 f4 e4 b0 d0 d1 c0 c1
                go_wp2_with fail
                go_roundw
                case rel => exact ⟨j + 1 + 1, by omega, by go_num, hHN2.out, HB.out.2.trans ((HW.out.2.mono hbs).trans (hw1.mono (Nat.le_trans hbs HW.out.2.size)))⟩
                case measure => simp [RowKit.intOf]; omega
          · have HTF := Lib.hid (HT.out.symm.trans (decide_eq_false fun h => hri (h.2.1 _ (List.getElem_mem hlt))))
            have hno : l[k].page < 2 ∨ (2 ≤ l[k].page ∧ 4294967295 < l[k].page) ∨ (2 ≤ l[k].page ∧ l[k].page ≤ 4294967295 ∧ (40 : Int) < l[k].key.size) := by
              rcases Int.lt_or_le l[k].page 2 with h | h
              · exact .inl h
              · rcases Int.lt_or_le 4294967295 l[k].page with h2 | h2
                · exact .inr (.inl ⟨h, h2⟩)
                · refine .inr (.inr ⟨h, h2, ?_⟩)
                  rcases Nat.lt_or_ge 40 l[k].key.size with h3 | h3
                  · omega
                  · exact absurd (decide_eq_true ⟨h, h2, h3⟩) hri
            generalize l[k] = x at *
            have HB := Lib.hid hbl
            clear hok hri hcb hbl
            rcases hno with h | ⟨h, h2⟩ | ⟨h, h2, h3⟩
            all_goals
              go_wp2_with fail
              go_ret
              exact ⟨ret_bool HTF.out.symm, HB.out.trans (((Below.refl _ _).alloc (Nat.le_refl _) _).mono hbs)⟩
        · obtain rfl : k = l.length := by omega
          obtain ⟨h1, h2⟩ := hok
          rw [List.take_length] at h1 h2
          have HTF := Lib.hid (HT.out.symm.trans (decide_eq_true (okl_is hpos HK0.out h1 h2)))
          have HB := Lib.hid hbl
          clear h1 h2 hbl
          go_wp2_with fail
          go_ret
          exact ⟨ret_bool HTF.out.symm, HB.out⟩
    · have HTF := Lib.hid (HT.out.symm.trans (decide_eq_false fun h => hk0 (h.head hpos)))
      simp only [Nat.zero_mul, Nat.add_zero] at c0
      have hne : (l[0].key.toList == ([] : List UInt8)) = false := by
        rw [beq_eq_false_iff_ne]
        intro h
        exact hk0 (toList_inj (h.trans (by rw [Lib.toList_data])))
      generalize l[0].key = x at *
      clear h0 c1 hcell
      go_enter Tryz.func252, Tryz.ntmps252
      go_wp2_with fail
      go_ret
      exact ⟨ret_bool HTF.out.symm, Below.refl _ _⟩
end Go.Proofs.YtpoocbkligjgbaaGreatDoor.BR

namespace Go.Proofs.YtpoocbkligjgbaaGreatDoor.BR
open Go.RowKit Go.Lib

theorem bld_below {B b : Nat} {bs : List Value} {w w' : World} (h : IsBuilder 270 5 B b bs w) (hb : Below w.heap.size w w') : IsBuilder 270 5 B b bs w' := by
  rcases h with ⟨h1, v, h2, h3, h4⟩ | ⟨h1, v, h2, h3, h4⟩
  · exact .inl ⟨h1, v, (hb.block b (lt_of_block h2)).trans h2, row_kept (F := []) h3 (Kept.of_below hb) (fun g _ hF => by simp at hF), h4⟩
  · exact .inr ⟨h1, v, (hb.block b (lt_of_block h2)).trans h2, row_kept (F := []) h3 (Kept.of_below hb) (fun g _ hF => by simp at hF), h4⟩

theorem okl_sz {l : List Chd} (h : OKL l) (hl : l.length ≤ 35184372088832) : sz l ≤ 4611686018427387904 := by
  have := right_sz h.2.1
  omega

end Go.Proofs.YtpoocbkligjgbaaGreatDoor.BR

namespace Go.Proofs.YtpoocbkligjgbaaGreatDoor.BR
open Go.RowKit Go.Lib

theorem below_alloc {W0 W : World} (h : Below W0.heap.size W0 W) (o : Obj) : Below W0.heap.size W0 (W.alloc o) := h.alloc h.size o
/-- The bytes of one text, as a text. -/
def textS (s : ByteArray) : ByteArray := ⟨(textB s).toArray⟩
theorem textS_list (s : ByteArray) : (textS s).data.toList = textB s := by simp [textS]
theorem textS_size (s : ByteArray) : (textS s).size = (textB s).length := by simp [textS, ByteArray.size]
theorem text1_any (g : Nat) (s : ByteArray) (w : World) (hs : s.size ≤ 1000000) (hc : w.cell? ⟨g, 0, none⟩ = some (.string s)) :
    Calls Tryz.prog 194 #[.slice (some ⟨g, 0, none⟩) 1 1] w fun e w' => e = .returned (.string (textS s)) ∧ Below w.heap.size w w' := by
  have hr : Reads1 w w.heap.size (.slice (some ⟨g, 0, none⟩) 1 1) ([s].map Value.string) := by
    refine ⟨_, _, rfl, fun _ => ⟨g, 0, rfl, World.block_lt_of_cell? w _ hc, fun j u hu => ?_⟩⟩
    match j, hu with
    | 0, hu => simp at hu; subst hu; exact hc
    | j + 1, hu => simp at hu
  have h := text_any _ [s] w hr (by simp) (by simp [sizes]; omega)
  have e1 : (⟨(textsB [s]).toArray⟩ : ByteArray) = textS s := by simp [textsB, textS]
  rw [e1] at h
  exact h
/-- WriteString, in a world that has grown out of one in which the builder is known. -/
theorem put_write {B : Nat} {m : List UInt8} {wr W : World} (s : ByteArray) (h : IsBuilder 270 5 B B (byteCells m) wr) (hb : Below wr.heap.size wr W) (hm : m.length ≤ 1000000) (hs : s.size ≤ 1000000) :
    Calls Tryz.prog 162 #[.pointer (some ⟨B, 0, none⟩), .string s] W fun e w' => e = .returned (.tuple #[.int .i64 s.size, .nilIface]) ∧ IsBuilder 270 5 B B (byteCells (m ++ s.data.toList)) w' ∧ Below B W w' ∧ KeepsBut B W w' :=
  (bwrite_keeps s (bld_below h hb) hm hs).mono fun _ _ ⟨h1, h2, h3, h4⟩ => ⟨h1, .inr h2, h3, h4⟩
theorem held_has {B g : Nat} {x : Chd} {W w' : World} (hg : g ≠ B) (hk : KeepsBut B W w') (h : Has W g 204 #[.string x.key, .int .i64 x.page]) :
    Has w' g 204 #[.string x.key, .int .i64 x.page] := hk g _ _ hg (by decide) h

theorem has_box {W : World} {g : Nat} {x : Chd} (h : Has W g 204 #[.string x.key, .int .i64 x.page]) : W.cell? ⟨g, 0, none⟩ = some (.string x.key) ∧ W.cell? ⟨g, 1, none⟩ = some (.int .i64 x.page) :=
  ⟨h.cell 0, h.cell 1⟩
abbrev IBox (W : World) (g : Nat) (x : Chd) : Prop := Has W g 204 #[.string x.key, .int .i64 x.page]
/-- What is laid for one child while its box stands: in worlds that have grown out of W0. -/
theorem it_text {W0 W : World} {g gb : Nat} {x : Chd} (h0 : IBox W0 gb x) (s : ByteArray) (hs : s.size ≤ 1000000) (hb : Below W0.heap.size W0 W) (hc : W.cell? ⟨g, 0, none⟩ = some (.string s)) :
    Calls Tryz.prog 194 #[.slice (some ⟨g, 0, none⟩) 1 1] W fun e w' => e = .returned (.string (textS s)) ∧ Below W.heap.size W w' ∧ Below W0.heap.size W0 w' ∧ w'.cell? ⟨gb, 0, none⟩ = some (.string x.key) ∧ w'.cell? ⟨gb, 1, none⟩ = some (.int .i64 x.page) :=
  (text1_any g s W hs hc).mono fun _ _ ⟨h1, h2⟩ => ⟨h1, h2, hb.trans (h2.mono hb.size), has_box (h0.below (hb.trans (h2.mono hb.size)) h0.inside)⟩
theorem it_var {W0 W : World} {g gb : Nat} {x : Chd} (h0 : IBox W0 gb x) (n : Int) (hn : IsInt n) (hb : Below W0.heap.size W0 W) (hc : W.cell? ⟨g, 0, none⟩ = some (.int .i64 n)) :
    Calls Tryz.prog 197 #[.slice (some ⟨g, 0, none⟩) 1 1] W fun e w' => e = .returned (.string (varS n)) ∧ Below W.heap.size W w' ∧ Below W0.heap.size W0 w' ∧ w'.cell? ⟨gb, 0, none⟩ = some (.string x.key) ∧ w'.cell? ⟨gb, 1, none⟩ = some (.int .i64 x.page) :=
  (var1_any g n W hn hc).mono fun _ _ ⟨h1, h2⟩ => ⟨h1, h2, hb.trans (h2.mono hb.size), has_box (h0.below (hb.trans (h2.mono hb.size)) h0.inside)⟩
theorem it_write {B : Nat} {m : List UInt8} {W0 W : World} {gb : Nat} {x : Chd} (h0 : IBox W0 gb x) (hg : gb ≠ B) (h : IsBuilder 270 5 B B (byteCells m) W0) (hB : B ≤ W0.heap.size) (s : ByteArray) (hm : m.length ≤ 1000000) (hs : s.size ≤ 1000000) (hb : Below W0.heap.size W0 W) :
    Calls Tryz.prog 162 #[.pointer (some ⟨B, 0, none⟩), .string s] W fun e w' => e = .returned (.tuple #[.int .i64 s.size, .nilIface]) ∧ (IsBuilder 270 5 B B (byteCells (m ++ s.data.toList)) w' ∧ Below B W0 w' ∧ IBox w' gb x) ∧
      w'.cell? ⟨gb, 0, none⟩ = some (.string x.key) ∧ w'.cell? ⟨gb, 1, none⟩ = some (.int .i64 x.page) :=
  (put_write s h hb hm hs).mono fun _ _ ⟨h1, h2, h3, h4⟩ =>
    have h5 := held_has hg h4 (h0.below hb h0.inside)
    ⟨h1, ⟨h2, (hb.mono hB).trans h3, h5⟩, has_box h5⟩
theorem add_any (a b : ByteArray) (ha : a.size ≤ 1000000) (hb : b.size ≤ 1000000) (W : World) : (Op.stringOp .add a b).run Tryz.prog W = .ok (.string (a ++ b)) W := run_string_add_sum W a b (by omega)

set_option maxRecDepth 100000 in
set_option maxHeartbeats 2000000 in
theorem put_any (v : Value) (l : List Chd) (w : World) (hr : ReadsIt w w.heap.size v l) (hl : l.length ≤ 35184372088832) :
    Calls Tryz.prog 205 #[v] w fun e w' => e = .returned (.tuple #[.string ⟨(putB l).toArray⟩, .int .i64 (putE l)]) ∧ Below w.heap.size w w' := by
  have ha := allRight_any v l w hr
  obtain ⟨A, c, rfl⟩ := hr.form
  by_cases hok : OKL l
  · have hs := fun w1 (hb : Below w.heap.size w w1) => size_any (.slice A l.length c) l w1 (hr.grow hb hb.size) (fun x hx => right_ok (hok.2.1 x hx)) (okl_sz hok hl)
    rw [decide_eq_true hok] at ha
    by_cases hsz : sz l ≤ 240
    · have e1 : putE l = 0 := by unfold putE; rw [if_pos hok, if_pos hsz]
      have e2 : putB l = leafB l := by unfold putB; rw [if_pos ⟨hok, hsz⟩]
      rw [e1, e2]
      obtain ⟨n, hn⟩ : ∃ n, l.length = n := ⟨_, rfl⟩
      obtain ⟨T, hT⟩ : ∃ T, sz l = T := ⟨_, rfl⟩
      simp only [hT] at hs
      have hT240 : (T : Int) ≤ 240 := by omega
      rw [hn] at hr ha hs ⊢
      have HS := Lib.hid hs
      have HH := Lib.hid (And.intro hr (And.intro hok (And.intro hn hT)))
      clear hs hr hok hsz e1 e2 hT hl hn
      go_enter Tryz.func205, Tryz.ntmps205
      go_wp2_with fail
      refine ha.mono ?_
      rintro e w1 ⟨rfl, hb1⟩
      clear ha
      go_wp2_with fail
      refine (HS.out _ hb1).mono ?_
      rintro e w2 ⟨rfl, hb2⟩
      have hb2' := hb1.trans (hb2.mono hb1.size)
      clear hb1 hb2 HS
      go_wp2_with fail
      have hst := fresh_isBuilder 270 5 w2
      have hbz := ((Below.refl w2.heap.size w2).alloc (Nat.le_refl _) (.cells #[.pointer none, .slice none 0 0] 270))
      obtain ⟨B, hB⟩ : ∃ B, w2.heap.size = B := ⟨_, rfl⟩
      rw [hB] at hst hbz ⊢
      have HBB := Lib.hid (And.intro hB (And.intro hst (And.intro hb2' hbz)))
      clear hB hst hb2' hbz
      go_loopw [15] (fun iv wr => ∃ k : Nat, k ≤ n ∧ iv = .int .i64 k ∧ IsBuilder 270 5 B B (byteCells (leafB (l.take k))) wr ∧ Below B w2 wr) (fun iv _ => n - (RowKit.intOf iv).toNat)
      case atStart => exact ⟨0, Nat.zero_le _, rfl, by simpa [leafB, byteCells] using HBB.out.2.1, HBB.out.2.2.2⟩
      case round =>
        obtain ⟨k, hk, rfl, hbd, hbl⟩ := hrel
        have hBw : B < wr.heap.size := by
          rcases hbd with h | h
          · exact h.lt
          · exact h.lt
        by_cases hlt : k < n
        · obtain ⟨hr, hok, hn, hT⟩ := HH.out
          have hkl : k < l.length := by omega
          have hwr : Below w.heap.size w wr := HBB.out.2.2.1.trans (hbl.mono (by rw [← HBB.out.1]; exact HBB.out.2.2.1.size))
          obtain ⟨A', c', hv, _, hcm, _, hc⟩ := hr
          obtain ⟨b, off, hA, hbb, hcell⟩ := hc (by omega)
          subst hA
          cases hv
          obtain ⟨c0, c1⟩ := (hcell.below hwr hbb) k hkl
          have hri := hok.2.1 l[k] (by simp)
          have hts := (sz_take l (k + 1)).1
          have HS : Hid (leafB (l.take (k + 1)) = leafB (l.take k) ++ itemB l[k]) := Lib.hid (by rw [take_snoc1 l k hkl, leafB_snoc])
          have hm : (leafB (l.take k)).length ≤ 240 := by have := (sz_take l k).1; unfold sz at this hT; omega
          generalize l[k] = x at *
          generalize leafB (l.take k) = m at *
          obtain ⟨r1, r2, r3⟩ := right_cases hri
          have hn63 : (k : Int) < l.length := by omega
          have hn64 : (l.length : Int) ≤ 9223372036854775807 := by unfold maxLen at hcm; omega
          have HR := Lib.hid (And.intro hri (And.intro hbl (And.intro hbd hwr)))
          clear hts hok hT hcell hcm hc hwr hbl
          go_wp2_with fail
          obtain ⟨W0, hW0⟩ : ∃ W0, W0 = wr.alloc (iobj x) := ⟨_, rfl⟩
          rw [← hW0]
          have h0 : IBox W0 wr.heap.size x := by subst hW0; exact Has.made _ _ _
          have hwW0 : Below wr.heap.size wr W0 := by subst hW0; exact (Below.refl _ _).alloc (Nat.le_refl _) _
          have hbd0 := bld_below hbd hwW0
          have hs0 : wr.heap.size < W0.heap.size := h0.inside
          have hB0 : B ≤ W0.heap.size := by omega
          have hgB : wr.heap.size ≠ B := by omega
          have hks : (textS x.key).size ≤ 1000 := by rw [textS_size, textB_small (by omega)]; omega
          have hin := right_ok hri
          have hps : (varS x.page).size ≤ 1000 := by
            have h1 := (right_len hri).1
            have h2 := (item_len x).1
            rw [varS_size]
            omega
          have hbx : ∀ W, Below W0.heap.size W0 W → W.cell? ⟨wr.heap.size, 0, none⟩ = some (.string x.key) ∧ W.cell? ⟨wr.heap.size, 1, none⟩ = some (.int .i64 x.page) := fun W h => has_box (h0.below h h0.inside)
          have HK := Lib.hid hbx
          have H1 := Lib.hid (fun W g hb hc => it_text (W := W) (g := g) h0 x.key (by omega) hb hc)
          have H2 := Lib.hid (fun W g hb hc => it_var (W := W) (g := g) h0 x.page hin.2 hb hc)
          have H3 := Lib.hid (fun W hb => it_write (W := W) h0 hgB hbd0 hB0 (textS x.key ++ varS x.page) (by omega) (by rw [ByteArray.size_append]; omega) hb)
          have hadd := add_any (textS x.key) (varS x.page) (by omega) (by omega)
          have hb0 := Below.refl W0.heap.size W0
          have HQ := Lib.hid (And.intro hwW0 (And.intro hbd0 (And.intro hB0 hgB)))
          have hib : m ++ (textS x.key ++ varS x.page).data.toList = m ++ itemB x := by
            unfold itemB
            simp [textS, varS]
          have HIB := Lib.hid hib
          generalize textS x.key = S1 at *
          generalize varS x.page = S2 at *
          obtain ⟨d0, d1⟩ := hbx W0 hb0
          clear hbx h0 hwW0 hbd0 hW0 hks hps hgB hbd hib
          go_region_held3 (fun w' => w'.cell? ⟨wr.heap.size, 0, none⟩ = some (.string x.key) ∧ w'.cell? ⟨wr.heap.size, 1, none⟩ = some (.int .i64 x.page))
            (first | (refine ⟨?_, ?_⟩ <;> assumption) | exact HK.out _ (by repeat (first | assumption | (refine Below.drew ?_) | (refine below_alloc ?_ _)))) (first
            | (go_at_call 194; ((with_reducible refine (H1.out _ _ (by repeat (first | assumption | (refine Below.drew ?_) | (refine below_alloc ?_ _))) ?_).mono ?_)); (go_simp); rintro e w3 ⟨rfl, hq3, hb3, f0, f1⟩; have q3 := bcell hq3; clear hq3)
            | (go_at_call 197; ((with_reducible refine (H2.out _ _ (by repeat (first | assumption | (refine Below.drew ?_) | (refine below_alloc ?_ _))) ?_).mono ?_)); (go_simp); rintro e w4 ⟨rfl, hq4, hb4, g0, g1⟩; have q4 := bcell hq4; clear hq4)
            | (go_at_call 162; ((with_reducible refine (H3.out _ (by repeat (first | assumption | (refine Below.drew ?_) | (refine below_alloc ?_ _)))).mono ?_)); rintro e w6 ⟨rfl, hq6, e0, e1⟩))
          all_goals
            obtain ⟨hbd6, hb6, hbox6⟩ := hq6
            go_wp2
            refine ⟨⟨k + 1, by omega, by go_num, ?_, HR.out.2.1.trans ((HQ.out.1.mono (by omega)).trans hb6)⟩, by simp [RowKit.intOf]; omega⟩
            rw [HS.out, ← HIB.out]
            exact hbd6
        · obtain rfl : k = n := by omega
          obtain ⟨hr, hok, hn, hT⟩ := HH.out
          rw [← hn, List.take_length] at hbd
          have hst := Tryz.Builder_String_any B B _ wr hbd (by omega)
          have hbf := HBB.out.2.2.1.trans (hbl.mono (by rw [← HBB.out.1]; exact HBB.out.2.2.1.size))
          have HR := Lib.hid (And.intro hbf (And.intro HBB.out.1 (And.intro HBB.out.2.2.1 hbl)))
          clear hr hok hn hT hbd hbf hbl
          go_wp2_with fail
          refine hst.mono ?_
          rintro e w1 ⟨rfl, hb1⟩
          have H1 := Lib.hid hb1
          clear hb1 hst
          go_wp2_with fail
          go_ret2
          exact ⟨rfl, HR.out.1.trans (H1.out.mono (by rw [← HR.out.2.1]; exact HR.out.2.2.1.size))⟩
    · have e1 : putE l = 2 := by unfold putE; rw [if_pos hok, if_neg hsz]
      have e2 : putB l = [] := by unfold putB; rw [if_neg (fun h => hsz h.2)]
      rw [e1, e2]
      have h240 : (240 : Int) < (sz l : Nat) := by omega
      generalize sz l = T at *
      generalize l.length = n at *
      have HS := Lib.hid hs
      clear hs hr hok hsz e1 e2 hl
      go_enter Tryz.func205, Tryz.ntmps205
      go_wp2_with fail
      refine ha.mono ?_
      rintro e w1 ⟨rfl, hb1⟩
      clear ha
      go_wp2_with fail
      refine (HS.out _ hb1).mono ?_
      rintro e w2 ⟨rfl, hb2⟩
      have hb2' := hb1.trans (hb2.mono hb1.size)
      clear hb1 hb2 HS
      go_wp2_with fail
      go_ret2
      exact ⟨rfl, hb2'⟩
  · have e1 : putE l = 1 := by unfold putE; rw [if_neg hok]
    have e2 : putB l = [] := by unfold putB; rw [if_neg (fun h => hok h.1)]
    rw [decide_eq_false hok] at ha
    rw [e1, e2]
    generalize l.length = n at *
    clear hok e1 e2 hr
    go_enter Tryz.func205, Tryz.ntmps205
    go_wp2_with fail
    refine ha.mono ?_
    rintro e w1 ⟨rfl, hb1⟩
    clear ha
    go_wp2_with fail
    go_ret2
    exact ⟨rfl, hb1⟩
end Go.Proofs.YtpoocbkligjgbaaGreatDoor.BR

namespace Go.Proofs.YtpoocbkligjgbaaGreatDoor.BR
open Go.RowKit Go.Lib

theorem Tryz.infoChild : (Tryz.prog.info? 204).map (fun i => (i.zero, i.size, i.bytes)) = some (some (.agg #[.string ⟨#[]⟩, .int .i64 0]), 2, 24) := by kernel_rfl

section
variable {ops : Array Oper} {rest : List Oper} {o : Oper} {a : Act} {Q : Exit → Act → World → Prop}
/-- append(row, v...) of children. -/
theorem append_its (hgd : o.guard = none) (s x : Operand) (ho : o.op = .call { callee := .builtin .append, args := #[s, x], argTypes := #[167, 167] }) (base : Nat) (wr : World) (d : Value) (xs : List Chd) (hs : a.eval s = d) (hown : wr.ownsRow base 204 2 d xs.length (ilist xs))
    (B : Nat) (v : Value) (hx : a.eval x = v) (l : List Chd) (hr : ReadsIt wr B v l) (hlen : xs.length + l.length ≤ 1000000) (hbase : base ≤ wr.heap.size)
    (h : ∀ v' w', w'.ownsRow base 204 2 v' (xs ++ l).length (ilist (xs ++ l)) → Below base wr w' → wpList Tryz.prog ops Q rest (a.put o.dst v') w') : wpList Tryz.prog ops Q (o :: rest) a wr := by
  obtain ⟨i0, hi, hz0, hz1, hz2⟩ := info_parts Tryz.infoChild
  obtain ⟨A, c, rfl, _, _, hnil, hc⟩ := hr
  cases A with
  | none =>
    obtain ⟨rfl, rfl⟩ := hnil rfl
    exact wpList_append_own_none hgd s x 167 ho base 204 i0 2 Tryz.underlying167 hi _ xs.length (ilist xs) hs hown hx (h _ _ (by simpa using hown) (Below.refl _ _))
  | some ad =>
    have hcells : ∀ j u, (ilist l)[j]? = some u → wr.cell? (ad.add j) = some u := by
      intro j u hu
      have hj := (List.getElem?_eq_some_iff.1 hu).1
      rw [length_ilist] at hj
      obtain ⟨b, off, hA, _, hcell⟩ := hc (by omega)
      obtain rfl := Option.some.inj hA
      rw [Go.WideShapes.add_plain]
      exact hcell.list j u hu
    refine wpList_append_own _ hgd s x 167 ho base 204 i0 _ 2 24 Tryz.underlying167 hi hz0 hz1 hz2 rfl (by decide) _ xs.length (ilist xs) hs hown ad l.length c (ilist l) hx (length_ilist l) hcells (ilist_one l) (by unfold maxLen; omega) (by omega) hbase ?_
    intro v' w' h2 h3 _
    rw [← ilist_append] at h2
    exact h v' w' (by rw [List.length_append]; exact h2) ((Below.refl base wr).grown h3 hbase (fun k hk => (World.ownsRow.lt hown k hk).1))
end
theorem row_lower {w : World} {base base' : Nat} {e : TypeId} {size : Nat} {v : Value} {n : Nat} {xs : List Value} (h : w.ownsRow base e size v n xs) (hb : base' ≤ base) : w.ownsRow base' e size v n xs := by
  refine ⟨h.1, ?_⟩
  rcases h.2 with hn | ⟨g, cap, cur, rfl, h1, rest⟩
  · exact .inl hn
  · exact .inr ⟨g, cap, cur, rfl, Nat.le_trans hb h1, rest⟩

set_option maxRecDepth 100000 in
set_option maxHeartbeats 400000 in
theorem grow_any (n : Nat) (w : World) (hn : n ≤ 1000000) :
    Calls Tryz.prog 300 #[.slice none 0 0, .int .i64 n] w fun e w' => ∃ v, e = .returned v ∧ w'.ownsRow w.heap.size 204 2 v 0 [] ∧ Below w.heap.size w w' := by
  obtain ⟨i0, hi, hz0, hz1, hz2⟩ := info_parts Tryz.infoChild
  have HI := Lib.hid (And.intro hi (And.intro hz0 (And.intro hz1 hz2)))
  clear hi hz0 hz1 hz2
  by_cases h0 : 0 < n
  · have h1 : (n : Int) ≤ 1000000 := by omega
    have h2 : (0 : Int) < n := by omega
    have hr := fun (W : World) (ty : TypeId) => run_append_nil_zeros (P := Tryz.prog) W 167 3 ty 204 i0 _ .i64 .i64 Tryz.underlying167 Tryz.underlying3 HI.out.1 HI.out.2.1 n h0 (by rw [HI.out.2.2.1]; decide) (by omega) (by rw [HI.out.2.2.2]; omega)
    have HR := Lib.hid hr
    clear hr
    go_enter Tryz.func300, Tryz.ntmps300
    go_wp2_with (at_builtin; refine wpList_append_run _ rfl _ _ 167 3 rfl (.slice none 0 0) (.int .i64 n) rfl rfl _ _ (HR.out _ _) ?_)
    go_ret
    have hge := grownCap_ge w n 0 204
    have hcm2 := grownCap_le_maxLen w n 0 204 (by unfold maxLen; omega)
    generalize grownCap w n 0 204 = C at *
    refine ⟨_, rfl, ⟨rfl, .inr ⟨_, _, _, rfl, Nat.le_refl _, heap_alloc_new w.drew _, Nat.zero_le _, hcm2, ?_, ?_⟩⟩, ⟨rfl, rfl, rfl, by simp, fun k hk => Below.heap_alloc w.drew _ k hk⟩⟩
    · simp only [Array.size_append, size_zeroCells, ← Nat.add_mul]
      congr 1
      omega
    · simp
  · obtain rfl : n = 0 := by omega
    go_enter Tryz.func300, Tryz.ntmps300
    go_wp2_with fail
    go_ret
    exact ⟨_, rfl, World.ownsRow_nil _ _ _ _, Below.refl _ _⟩
/-- Lists side by side: the slice, and what it reads. -/
def flatI (P : List (Value × List Chd)) : List Chd := P.flatMap fun p => p.2
theorem flatI_snoc (P : List (Value × List Chd)) (p : Value × List Chd) : flatI (P ++ [p]) = flatI P ++ p.2 := by simp [flatI]
theorem flatI_take (P : List (Value × List Chd)) (k : Nat) : (flatI (P.take k)).length ≤ (flatI P).length := by
  have : (flatI P).length = (flatI (P.take k)).length + (flatI (P.drop k)).length := by
    unfold flatI
    rw [← List.length_append, ← List.flatMap_append, List.take_append_drop]
  omega

set_option maxRecDepth 100000 in
set_option maxHeartbeats 1000000 in
theorem concat_any (v : Value) (P : List (Value × List Chd)) (w : World) (hr : Reads1 w w.heap.size v (P.map fun p => p.1)) (hp : ∀ p ∈ P, ReadsIt w w.heap.size p.1 p.2) (hl : (flatI P).length ≤ 1000000) (hn : P.length ≤ 1000) :
    Calls Tryz.prog 285 #[v] w fun e w' => ∃ v', e = .returned v' ∧ w'.ownsRow w.heap.size 204 2 v' (flatI P).length (ilist (flatI P)) ∧ Below w.heap.size w w' := by
  obtain ⟨A, c, rfl, hc⟩ := hr
  simp only [List.length_map] at hc ⊢
  have HG := Lib.hid (fun W => grow_any (flatI P).length W hl)
  go_enter Tryz.func285, Tryz.ntmps285
  go_wp2_with fail
  go_loop [3, 11] (fun n i => ∃ k : Nat, k ≤ P.length ∧ i = .int .i64 k ∧ n = .int .i64 ((flatI (P.take k)).length : Nat)) (fun _ i => P.length - (RowKit.intOf i).toNat)
  case atStart => exact ⟨0, Nat.zero_le _, rfl, rfl⟩
  case round =>
    obtain ⟨k, hk, rfl, rfl⟩ := hrel
    by_cases hlt : k < P.length
    · obtain ⟨b, off, rfl, hbb, hcell⟩ := hc (by omega)
      have hck := hcell k P[k].1 (by simp [hlt])
      have hpk := (hp P[k] (by simp)).form
      have htk := flatI_take P k
      have htk1 := flatI_take P (k + 1)
      have HS : Hid ((flatI (P.take (k + 1))).length = (flatI (P.take k)).length + P[k].2.length) := Lib.hid (by rw [List.take_succ_eq_append_getElem hlt, flatI_snoc, List.length_append])
      have hle : (flatI (P.take k)).length + P[k].2.length ≤ 1000000 := by rw [← HS.out]; omega
      obtain ⟨A1, c1, hA1⟩ := hpk
      rw [hA1] at hck
      generalize P[k].2.length = m at *
      have HH := Lib.hid (And.intro hc (And.intro hcell (And.intro hp hA1)))
      clear hc hcell hp hA1
      go_wp2_with fail
      exact ⟨⟨k + 1, by omega, by go_num, by rw [HS.out]; go_num⟩, by simp [RowKit.intOf]; omega⟩
    · obtain rfl : k = P.length := by omega
      rw [List.take_length]
      have HH := Lib.hid (And.intro hc (And.intro hp hl))
      clear hc hp hl
      go_wp2_with fail
      refine (HG.out _).mono ?_
      rintro e w1 ⟨v1, rfl, hown1, hb1⟩
      have hnn : (P.length : Int) ≤ 1000 := by omega
      have HO := Lib.hid (And.intro hown1 hb1)
      clear hown1 hb1
      go_wp2_with fail
      go_loopw [6, 27] (fun sv iv wr => ∃ k : Nat, k ≤ P.length ∧ iv = .int .i64 k ∧ wr.ownsRow w.heap.size 204 2 sv (flatI (P.take k)).length (ilist (flatI (P.take k))) ∧ Below w.heap.size w wr) (fun _ iv _ => P.length - (RowKit.intOf iv).toNat)
      case atStart => exact ⟨0, Nat.zero_le _, rfl, HO.out.1, HO.out.2⟩
      case round =>
        obtain ⟨k, hk, rfl, hown, hbl⟩ := hrel
        have hbs := hbl.size
        by_cases hlt : k < P.length
        · obtain ⟨hc, hp, hl⟩ := HH.out
          obtain ⟨b, off, rfl, hbb, hcell⟩ := hc (by omega)
          have hck : wr.cell? ⟨b, off + k, none⟩ = some P[k].1 := (hbl.cell (p := ⟨b, off + k, none⟩) hbb).trans (hcell k P[k].1 (by simp [hlt]))
          have hpk := (hp P[k] (by simp)).below hbl
          have htk1 := flatI_take P (k + 1)
          have HS : flatI (P.take (k + 1)) = flatI (P.take k) ++ P[k].2 := by rw [List.take_succ_eq_append_getElem hlt, flatI_snoc]
          have hle : (flatI (P.take k)).length + P[k].2.length ≤ 1000000 := by
            have := congrArg List.length HS
            rw [List.length_append] at this
            omega
          generalize P[k] = p at *
          generalize flatI (P.take k) = xs at *
          have HSH := Lib.hid (And.intro HS (And.intro hbl hown))
          obtain ⟨A1, c1, hA1⟩ := hpk.form
          rw [hA1] at hck hpk
          clear hc hcell hp HS hl hbl hA1
          go_wp2_with (at_builtin; refine append_its rfl _ _ rfl w.heap.size _ u6 xs rfl hown _ (.slice A1 p.2.length c1) rfl p.2 hpk hle hbs ?_; intro v2 w2 hown2 hb2)
          rw [← HSH.out.1] at hown2
          go_roundw
          case rel => exact ⟨k + 1, by omega, by go_num, hown2, HSH.out.2.1.trans hb2⟩
          case measure => simp [RowKit.intOf]; omega
        · obtain rfl : k = P.length := by omega
          rw [List.take_length] at hown
          go_wp2_with fail
          go_ret
          exact ⟨_, rfl, hown, hbl⟩
end Go.Proofs.YtpoocbkligjgbaaGreatDoor.BR
