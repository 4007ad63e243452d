/-
  Walks over package branch: textSize. Walks over package branch: Size.
-/
import Derived.Test.YtpfifmjcmpankaaGreatMg4
import Derived.Test.YtpfifmjcmpankaaGreatMg15
import Derived.Test.YtpfifmjcmpankaaGreatMg7
import Derived.Deep.QuietTactic
import Derived.BigQuiet
import Derived.Deep.RegionHeld3
import Derived.StillTailTactics
import Derived.IntWalk
namespace Go.Proofs.YtpfifmjcmpankaaGreat.BR
open Go.RowKit Go.Lib

/-- The bytes of one number, as a text. -/
def varS (n : Int) : ByteArray := ⟨(uvarint (zigzag n)).toArray⟩
theorem varS_list (n : Int) : (varS n).data.toList = uvarint (zigzag n) := by simp [varS]
theorem varS_size (n : Int) : (varS n).size = (uvarint (zigzag n)).length := by simp [varS, ByteArray.size]
theorem var1_any (g : Nat) (n : Int) (w : World) (hi : IsInt n) (hc : w.cell? ⟨g, 0, none⟩ = some (.int .i64 n)) :
    Calls Tryz.prog 54 #[.slice (some ⟨g, 0, none⟩) 1 1] w fun e w' => e = .returned (.string (varS n)) ∧ Below w.heap.size w w' := by
  have hr : Reads1 w w.heap.size (.slice (some ⟨g, 0, none⟩) 1 1) ([n].map (Value.int .i64)) := by
    refine ⟨_, _, rfl, fun _ => ⟨g, 0, rfl, World.block_lt_of_cell? w _ hc, fun j u hu => ?_⟩⟩
    match j, hu with
    | 0, hu => simp at hu; subst hu; exact hc
    | j + 1, hu => simp at hu
  have h := var_any _ [n] w hr (by simp) (by intro x hx; simp at hx; subst hx; exact hi)
  have e1 : varsB [n] = uvarint (zigzag n) := by simp [varsB]
  rw [e1] at h
  exact h
set_option maxRecDepth 100000 in
set_option maxHeartbeats 400000 in
theorem tsize_any (s : ByteArray) (w : World) (hs : s.size ≤ 4611686018427387904) : Calls Tryz.prog 124 #[.string s] w fun e w' => e = .returned (.int .i64 ((textB s).length : Nat)) ∧ Below w.heap.size w w' := by
  have hv := fun g w => var1_any g (s.size : Int) w ⟨by omega, by omega⟩
  have hu := uvarint_length64 (zigzag_lt (x := (s.size : Int)) (by omega) (by omega))
  have hl : (textB s).length = (uvarint (zigzag (s.size : Int))).length + s.size := by
    have h2 : s.data.toList.length = s.size := by simp
    unfold textB
    rw [List.length_append, h2]
  have hz := varS_size (s.size : Int)
  rw [← hz] at hu hl
  generalize varS (s.size : Int) = U at *
  generalize (textB s).length = T at *
  have HV := Lib.hid hv
  have HL := Lib.hid hl
  clear hv hl hz
  go_enter Tryz.func124, Tryz.ntmps124
  go_wp2_with fail
  refine (HV.out _ _ ?_).mono ?_
  · go_simp
  rintro e w1 ⟨rfl, hb1⟩
  go_wp2
  go_ret
  exact ⟨ret_i64 (by have := HL.out; omega), ((Below.refl _ _).alloc (Nat.le_refl _) _).trans (hb1.mono (by simp))⟩

/-- The box of a child, in a world where nothing that was there has turned. -/
theorem box_cells {w w1 : World} (x : Chd) (hb : Below (w.heap.size + 1) (w.alloc (iobj x)) w1) :
    w1.cell? ⟨w.heap.size, 0, none⟩ = some (.string x.key) ∧ w1.cell? ⟨w.heap.size, 1, none⟩ = some (.int .i64 x.page) := by
  have hm := (Has.made w 131 #[.string x.key, .int .i64 x.page]).below hb (by omega)
  exact ⟨hm.cell 0, hm.cell 1⟩
end Go.Proofs.YtpfifmjcmpankaaGreat.BR

namespace Go.Proofs.YtpfifmjcmpankaaGreat.BR
open Go.RowKit Go.Lib

/-- What is held of a child's box while nothing else turns. -/
theorem held_box {wr W0 : World} {x : Chd} (h : W0 = wr.alloc (iobj x)) : ∀ W, Below W0.heap.size W0 W → W.cell? ⟨wr.heap.size, 0, none⟩ = some (.string x.key) ∧ W.cell? ⟨wr.heap.size, 1, none⟩ = some (.int .i64 x.page) := by
  subst h
  intro W h
  exact box_cells x (by simpa using h)

theorem bcell {W w1 : World} (hb : Below W.heap.size W w1) : ∀ b o, b < W.heap.size → w1.cell? ⟨b, o, none⟩ = W.cell? ⟨b, o, none⟩ :=
  fun b o h => hb.cell (p := ⟨b, o, none⟩) h
theorem item_len (x : Chd) : (itemB x).length = (textB x.key).length + (uvarint (zigzag x.page)).length ∧ x.key.size + 1 ≤ (textB x.key).length := by
  have := textB_len x.key
  unfold itemB
  rw [List.length_append]
  omega

set_option maxRecDepth 100000 in
set_option maxHeartbeats 1000000 in
theorem size_any (v : Value) (l : List Chd) (w : World) (hr : ReadsIt w w.heap.size v l) (hok : ∀ x ∈ l, x.ok) (hs : sz l ≤ 4611686018427387904) :
    Calls Tryz.prog 40 #[v] w fun e w' => e = .returned (.int .i64 (sz l : Nat)) ∧ Below w.heap.size w w' := by
  obtain ⟨A, c, rfl, hlc, hcm, _, hc⟩ := hr
  have hl63 : l.length ≤ 9223372036854775807 := by unfold maxLen at hcm; omega
  clear hlc hcm
  go_enter Tryz.func40, Tryz.ntmps40
  go_wp2
  go_loopw [3, 8] (fun n i wr => ∃ k : Nat, k ≤ l.length ∧ i = .int .i64 k ∧ n = .int .i64 (sz (l.take k) : Nat) ∧ Below w.heap.size w wr) (fun _ i _ => l.length - (RowKit.intOf i).toNat)
  case atStart => exact ⟨0, Nat.zero_le _, rfl, rfl, Below.refl _ _⟩
  case round =>
    obtain ⟨k, hk, rfl, rfl, hbl⟩ := hrel
    have hbs := hbl.size
    by_cases hlt : k < l.length
    · obtain ⟨b, off, rfl, hbb, hcell⟩ := hc (by omega)
      obtain ⟨c0, c1⟩ := (hcell.below hbl hbb) k hlt
      have hx := hok l[k] (by simp)
      have hts := (sz_take l (k + 1)).1
      rw [take_snoc1 l k hlt, sz_snoc] at hts
      have HS : Hid (sz (l.take (k + 1)) = sz (l.take k) + (itemB l[k]).length) := Lib.hid (by rw [take_snoc1 l k hlt, sz_snoc])
      generalize l[k] = x at *
      obtain ⟨hkl, hkl2⟩ := item_len x
      have hvz := varS_size x.page
      rw [← hvz] at hkl
      clear hc hcell
      go_wp2_with fail
      obtain ⟨W0, hW0⟩ : ∃ W0, W0 = wr.alloc (iobj x) := ⟨_, rfl⟩
      have hbx := held_box hW0
      have h0 : Below wr.heap.size wr W0 := by subst hW0; exact (Below.refl _ _).alloc (Nat.le_refl _) _
      have hb0 := Below.refl W0.heap.size W0
      obtain ⟨d0, d1⟩ := hbx W0 hb0
      rw [← hW0]
      have H1 := Lib.hid (fun W (h : Below W0.heap.size W0 W) => (tsize_any x.key W (by omega)).mono fun e w' ⟨h1, h2⟩ => (⟨h1, h2, h.trans (h2.mono h.size), hbx w' (h.trans (h2.mono h.size))⟩ : e = _ ∧ Below W.heap.size W w' ∧ Below W0.heap.size W0 w' ∧ _))
      have H2 := Lib.hid (fun W g (h : Below W0.heap.size W0 W) hc => (var1_any g x.page W hx.2 hc).mono fun e w' ⟨h1, h2⟩ => (⟨h1, h.trans (h2.mono h.size), hbx w' (h.trans (h2.mono h.size))⟩ : e = _ ∧ Below W0.heap.size W0 w' ∧ _))
      have HK := Lib.hid hbx
      have HB := Lib.hid (And.intro hbx h0)
      generalize varS x.page = U at *
      have hU : (textB x.key).length + U.size ≤ 4611686018427387904 := by omega
      clear hW0 hbx h0 hvz
      go_region_held3 (fun w' => w'.cell? ⟨wr.heap.size, 0, none⟩ = some (.string x.key) ∧ w'.cell? ⟨wr.heap.size, 1, none⟩ = some (.int .i64 x.page))
        (first | (refine ⟨?_, ?_⟩ <;> assumption) | exact HK.out _ (by first | assumption | exact Below.drew (by assumption) | exact Below.alloc (by assumption) (Nat.le_refl _) _ | exact Below.alloc (by assumption) (Below.size (w := W0) (by assumption)) _ | exact Below.drew (Below.alloc (by assumption) (Nat.le_refl _) _) | exact Below.drew (Below.alloc (by assumption) (Below.size (w := W0) (by assumption)) _))) (first
        | (go_at_call 124; ((with_reducible refine (H1.out _ (by first | assumption | exact Below.drew (by assumption) | exact Below.alloc (by assumption) (Nat.le_refl _) _ | exact Below.alloc (by assumption) (Below.size (w := W0) (by assumption)) _ | exact Below.drew (Below.alloc (by assumption) (Nat.le_refl _) _) | exact Below.drew (Below.alloc (by assumption) (Below.size (w := W0) (by assumption)) _))).mono ?_)); rintro e w1 ⟨rfl, hq1, hb1, f0, f1⟩; have q1 := bcell hq1; clear hq1)
        | (go_at_call 54; ((with_reducible refine (H2.out _ _ (by first | assumption | exact Below.drew (by assumption) | exact Below.alloc (by assumption) (Nat.le_refl _) _ | exact Below.alloc (by assumption) (Below.size (w := W0) (by assumption)) _ | exact Below.drew (Below.alloc (by assumption) (Nat.le_refl _) _) | exact Below.drew (Below.alloc (by assumption) (Below.size (w := W0) (by assumption)) _)) ?_).mono ?_)); (go_simp); rintro e w2 ⟨rfl, hb2, g0, g1⟩))
      all_goals
        have e1 : IntKind.i64.wrap (↑(sz (List.take k l)) + IntKind.i64.wrap (↑(textB x.key).length + ↑U.size)) = ((sz (l.take (k + 1)) : Nat) : Int) := by
          rw [IntWalk.i64_in (((textB x.key).length : Int) + (U.size : Int)) (by omega), IntWalk.i64_in _ (by omega)]
          rw [HS.out, hkl]
          omega
        go_wp2
        refine ⟨⟨k + 1, by omega, by go_num, by rw [e1], hbl.trans ((HB.out.2.trans (hb2.mono HB.out.2.size)).mono hbs)⟩, by simp [RowKit.intOf]; omega⟩
    · obtain rfl : k = l.length := by omega
      rw [List.take_length]
      go_wp2
      go_ret
      exact ⟨rfl, hbl⟩
end Go.Proofs.YtpfifmjcmpankaaGreat.BR
