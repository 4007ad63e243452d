/-
  Walks over package leaf: Size.
-/
import Derived.Test.YtbhacdoeacblpaaLF1
import Derived.IntWalk
namespace Go.Proofs.Ytbhacdoeacblpaa
open Go.RowKit Go.Lib

/-- What is held of an item's box while nothing else turns. -/
theorem held_box {wr W0 : World} {x : Itm} (h : W0 = wr.alloc (iobj x)) : ∀ W, Below W0.heap.size W0 W → W.cell? ⟨wr.heap.size, 0, none⟩ = some (.string x.key) ∧ W.cell? ⟨wr.heap.size, 1, none⟩ = some (.string x.val) ∧ W.cell? ⟨wr.heap.size, 2, none⟩ = some (.int .i64 x.over) ∧ W.cell? ⟨wr.heap.size, 3, none⟩ = some (.int .i64 x.size) := by
  subst h
  intro W h
  exact box_cells x (by simpa using h)

/-- A truth's byte. -/
def boolS (b : Bool) : ByteArray := ⟨#[if b then 1 else 0]⟩
theorem boolS_size (b : Bool) : (boolS b).size = 1 := rfl
theorem boolS_any (b : Bool) (w : World) : Calls Try.prog 22 #[.bool b] w fun e w' => e = .returned (.string (boolS b)) ∧ w = w' := bool_any b w

theorem item_key (x : Itm) : (textB x.key).length + 1 ≤ (itemB x).length ∧ x.key.size + 1 ≤ (textB x.key).length := by
  have := textB_len x.key
  unfold itemB
  rw [List.length_append, List.length_cons]
  omega
theorem item_val {x : Itm} (h : x.over = 0) : (itemB x).length = (textB x.key).length + 1 + (textB x.val).length := by
  unfold itemB
  rw [if_pos h, if_pos h, List.length_append, List.length_cons]
  omega
theorem item_over {x : Itm} (h : x.over ≠ 0) : (itemB x).length = (textB x.key).length + 1 + (varsB [x.over, x.size]).length := by
  unfold itemB
  rw [if_neg h, if_neg h, List.length_append, List.length_cons]
  omega

set_option maxRecDepth 100000 in
set_option maxHeartbeats 1000000 in
theorem size_any (v : Value) (l : List Itm) (w : World) (hr : ReadsIt w w.heap.size v l) (hok : ∀ x ∈ l, x.ok) (hs : sz l ≤ 4611686018427387904) :
    Calls Try.prog 14 #[v] w fun e w' => e = .returned (.int .i64 (sz l : Nat)) ∧ Below w.heap.size w w' := by
  obtain ⟨A, c, rfl, hlc, hcm, _, hc⟩ := hr
  have hl63 : l.length ≤ 9223372036854775807 := by unfold maxLen at hcm; omega
  clear hlc hcm
  go_enter Try.func14, Try.ntmps14
  go_wp2
  go_loopw [3, 8] (fun n i wr => ∃ k : Nat, k ≤ l.length ∧ i = .int .i64 k ∧ n = .int .i64 (sz (l.take k) : Nat) ∧ Below w.heap.size w wr) (fun _ i _ => l.length - (RowKit.intOf i).toNat)
  case atStart => exact ⟨0, Nat.zero_le _, rfl, rfl, Below.refl _ _⟩
  case round =>
    obtain ⟨k, hk, rfl, rfl, hbl⟩ := hrel
    have hbs := hbl.size
    by_cases hlt : k < l.length
    · obtain ⟨b, off, rfl, hbb, hcell⟩ := hc (by omega)
      obtain ⟨c0, c1, c2, c3⟩ := (hcell.below hbl hbb) k hlt
      have hx := hok l[k] (by simp)
      have hts := (sz_take l (k + 1)).1
      rw [take_snoc1 l k hlt, sz_snoc] at hts
      have HS : Hid (sz (l.take (k + 1)) = sz (l.take k) + (itemB l[k]).length) := Lib.hid (by rw [take_snoc1 l k hlt, sz_snoc])
      generalize l[k] = x at *
      obtain ⟨hkl, hkl2⟩ := item_key x
      clear hc hcell
      go_wp2_with fail
      obtain ⟨W0, hW0⟩ : ∃ W0, W0 = wr.alloc (iobj x) := ⟨_, rfl⟩
      have hbx := held_box hW0
      have h0 : Below wr.heap.size wr W0 := by subst hW0; exact (Below.refl _ _).alloc (Nat.le_refl _) _
      have hb0 := Below.refl W0.heap.size W0
      obtain ⟨d0, d1, d2, d3⟩ := hbx W0 hb0
      rw [← hW0]
      have H1 := Lib.hid (fun W (h : Below W0.heap.size W0 W) => (tsize_any x.key W (by omega)).mono fun e w' ⟨h1, h2⟩ => (⟨h1, h.trans (h2.mono h.size), hbx w' (h.trans (h2.mono h.size))⟩ : e = _ ∧ Below W0.heap.size W0 w' ∧ _))
      have H2 := Lib.hid (fun W (h : Below W0.heap.size W0 W) => (else_any x W).mono fun e w' ⟨h1, h2⟩ => (⟨h1, h.trans (h2.mono h.size), hbx w' (h.trans (h2.mono h.size))⟩ : e = _ ∧ Below W0.heap.size W0 w' ∧ _))
      have HB := Lib.hid (And.intro hbx h0)
      have hbo := Nat.le_of_eq (boolS_size (x.over != 0))
      clear hW0 hbx h0
      go_region_held3 (fun w' => Below W0.heap.size W0 w' ∧ w'.cell? ⟨wr.heap.size, 0, none⟩ = some (.string x.key) ∧ w'.cell? ⟨wr.heap.size, 1, none⟩ = some (.string x.val) ∧ w'.cell? ⟨wr.heap.size, 2, none⟩ = some (.int .i64 x.over) ∧ w'.cell? ⟨wr.heap.size, 3, none⟩ = some (.int .i64 x.size)) (refine ⟨?_, ?_, ?_, ?_, ?_⟩ <;> first | assumption | (refine Below.drew ?_; assumption)) (first
        | (go_at_call 31; ((with_reducible refine (H1.out _ (by first | assumption | (refine Below.drew ?_; assumption))).mono ?_)); rintro e w1 ⟨rfl, hb1, f0, f1, f2, f3⟩)
        | (go_at_call 23; ((with_reducible refine (H2.out _ (by first | assumption | (refine Below.drew ?_; assumption))).mono ?_)); rintro e w2 ⟨rfl, hb2, g0, g1, g2, g3⟩)
        | (go_at_call 22; ((with_reducible refine (boolS_any _ _).mono ?_)); rintro e w3 ⟨rfl, rfl⟩))
      have e1 : IntKind.i64.wrap (↑(sz (List.take k l)) + IntKind.i64.wrap (↑(textB x.key).length + ↑(boolS (x.over != 0)).size)) = ((sz (l.take k) + ((textB x.key).length + 1) : Nat) : Int) := by
        rw [boolS_size, IntWalk.i64_in ((textB x.key).length + ((1 : Nat) : Int)) (by omega), IntWalk.i64_in _ (by omega)]
        omega
      rw [e1]
      have hH := HB.out.1
      clear e1 hb0 hb1 f0 f1 f2 f3 d0 d1 d2 d3 H1 hbo
      obtain ⟨M, hM⟩ : ∃ M, sz (l.take k) + ((textB x.key).length + 1) = M := ⟨_, rfl⟩
      rw [hM]
      by_cases ho : x.over = 0
      · have hiv := item_val ho
        have hb : (x.over != 0) = false := by simpa using ho
        have hvl := textB_len x.val
        have H3 := Lib.hid (fun W => tsize_any x.val W (by omega))
        have HS2 : Hid (sz (l.take (k + 1)) = M + (textB x.val).length) := Lib.hid (by rw [HS.out]; omega)
        have hMl : M + (textB x.val).length ≤ 4611686018427387904 := by omega
        have HH := Lib.hid hH
        rw [hb] at H2
        clear hM hiv HS hts hkl hH ho hb
        go_wp2_with fail
        refine (H2.out _ hb2).mono ?_
        rintro e w3 ⟨rfl, hb3, f0, f1, f2, f3⟩
        clear g0 g1 g2 g3
        go_wp2_with fail
        refine (H3.out _).mono ?_
        rintro e w4 ⟨rfl, hb4⟩
        go_wp2_with fail
        go_roundw
        case rel => exact ⟨k + 1, by omega, by go_num, by rw [HS2.out]; go_num, hbl.trans ((HB.out.2.trans (hb3.mono HB.out.2.size)).trans (hb4.mono (Nat.le_trans HB.out.2.size hb3.size)) |>.mono hbs)⟩
        case measure => simp [RowKit.intOf]; omega
      · have hiv := item_over ho
        have hb : (x.over != 0) = true := by simpa using ho
        have hvb := varsB_len [x.over, x.size] (by intro y hy; simp at hy; rcases hy with rfl | rfl; exact hx.2.2.1; exact hx.2.2.2)
        have H3 := Lib.hid (fun g W hc hd => var2_any g x.over x.size W hx.2.2.1 hx.2.2.2 hc hd)
        have HS2 : Hid (sz (l.take (k + 1)) = M + (varsB [x.over, x.size]).length) := Lib.hid (by rw [HS.out]; omega)
        have hMl : M + (varsB [x.over, x.size]).length ≤ 4611686018427387904 := by omega
        have HH := Lib.hid hH
        rw [hb] at H2
        clear hM hiv HS hts hkl hH ho hb
        generalize varsB [x.over, x.size] = Vb at *
        go_wp2_with fail
        refine (H2.out _ hb2).mono ?_
        rintro e w3 ⟨rfl, hb3, f0, f1, f2, f3⟩
        clear g0 g1 g2 g3
        go_wp2_with fail
        refine (H3.out _ _ ?_ ?_).mono ?_
        · go_simp
        · go_simp
        rintro e w4 ⟨rfl, hb4⟩
        go_wp2_with fail
        go_roundw
        case rel => exact ⟨k + 1, by omega, by go_num, by rw [HS2.out]; go_num, hbl.trans ((HB.out.2.trans (hb3.mono HB.out.2.size)).trans ((((Below.refl _ _).alloc (Nat.le_refl _) _).trans (hb4.mono (by simp))).mono (Nat.le_trans HB.out.2.size hb3.size)) |>.mono hbs)⟩
        case measure => simp [RowKit.intOf]; omega
    · obtain rfl : k = l.length := by omega
      rw [List.take_length]
      go_wp2
      go_ret
      exact ⟨rfl, hbl⟩
end Go.Proofs.Ytbhacdoeacblpaa
