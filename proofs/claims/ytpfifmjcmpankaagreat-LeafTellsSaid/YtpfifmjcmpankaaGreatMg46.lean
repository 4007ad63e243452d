/-
  Walks over the statements' own: are items few and short?
-/
import Derived.Test.YtpfifmjcmpankaaGreatMg4
import Derived.Test.YtpfifmjcmpankaaGreatMg16
import Derived.Deep.RegionHeld3
namespace Go.Proofs.YtpfifmjcmpankaaGreat
open Go.RowKit Go.Lib

/-- What is left of room behind two sizes. -/
def RoomTo (left k v : Int) (w : World) (e : Ending) (w' : World) : Prop := ∃ r : Int, e = .returned (.int .i64 r) ∧ -1 ≤ r ∧ r ≤ 9000 ∧ (0 ≤ r → 0 ≤ left ∧ k + v + r = left) ∧ Below w.heap.size w w'

set_option maxRecDepth 1000000 in
set_option maxHeartbeats 400000 in
theorem room2_any (left k v : Int) (g : Nat) (w : World) (h1 : -1 ≤ left) (h2 : left ≤ 9000) (hk : 0 ≤ k) (hv : 0 ≤ v) (hk2 : k ≤ 9223372036854775807) (hv2 : v ≤ 9223372036854775807) (c0 : w.cell? ⟨g, 0, none⟩ = some (.int .i64 k)) (c1 : w.cell? ⟨g, 1, none⟩ = some (.int .i64 v)) :
    Calls Tryz.prog 48 #[.int .i64 left, .slice (some ⟨g, 0, none⟩) 2 2] w (RoomTo left k v w) := by
  go_enter Tryz.func48, Tryz.ntmps48
  go_wp2
  go_loopw [0, 5] (fun x i wr => ∃ (y : Int) (j : Nat), x = .int .i64 y ∧ i = .int .i64 j ∧ wr = w ∧ ((j = 0 ∧ y = left) ∨ (j = 1 ∧ y = left - k ∧ 0 ≤ left ∧ k ≤ left) ∨ (j = 2 ∧ y = left - k - v ∧ 0 ≤ left ∧ k + v ≤ left))) (fun _ i _ => (2 - intOf i).toNat)
  case atStart => exact ⟨left, 0, rfl, rfl, rfl, .inl ⟨rfl, rfl⟩⟩
  case round =>
    obtain ⟨y, j, rfl, rfl, rfl, h⟩ := hrel
    rcases h with ⟨rfl, hyl⟩ | ⟨rfl, rfl, h3, h4⟩ | ⟨rfl, rfl, h3, h4⟩
    · have hyl' := hyl.symm
      subst hyl'
      clear hyl
      by_cases h5 : left < 0
      · go_wp2
        go_ret
        exact ⟨-1, rfl, by omega, by omega, fun h => absurd h (by omega), Below.refl _ _⟩
      · by_cases h6 : left < k
        · go_wp2
          go_ret
          exact ⟨-1, rfl, by omega, by omega, fun h => absurd h (by omega), Below.refl _ _⟩
        · go_wp2
          exact ⟨⟨left - k, 1, rfl, rfl, trivial, .inr (.inl ⟨rfl, rfl, by omega, by omega⟩)⟩, by simp [intOf]⟩
    · by_cases h6 : left - k < v
      · have h7 : ¬ left - k < 0 := by omega
        go_wp2
        go_ret
        exact ⟨-1, rfl, by omega, by omega, fun h => absurd h (by omega), Below.refl _ _⟩
      · have h7 : ¬ left - k < 0 := by omega
        go_wp2
        exact ⟨⟨left - k - v, 2, rfl, rfl, trivial, .inr (.inr ⟨rfl, rfl, by omega, by omega⟩)⟩, by simp [intOf]⟩
    · go_wp2
      go_ret
      exact ⟨_, rfl, by omega, by omega, fun _ => ⟨h3, by omega⟩, Below.refl _ _⟩

/-- How long keys and values are together. -/
def sizesI (l : List Itm) : Nat := (l.map fun x => x.key.size + x.val.size).sum
theorem sizesI_snoc (l : List Itm) (x : Itm) : sizesI (l ++ [x]) = sizesI l + (x.key.size + x.val.size) := by simp [sizesI]
theorem sizesI_mem {l : List Itm} {x : Itm} (h : x ∈ l) : x.key.size + x.val.size ≤ sizesI l := by
  induction l with
  | nil => simp at h
  | cons a r ih =>
    simp only [sizesI, List.map_cons, List.sum_cons] at *
    rcases List.mem_cons.1 h with rfl | h
    · omega
    · have := ih h
      omega
/-- Are items small? What 'yes' says. -/
def SmallTo (l : List Itm) (w : World) (e : Ending) (w' : World) : Prop := ∃ b : Bool, e = .returned (.bool b) ∧ (b = true → l.length ≤ 100 ∧ sizesI l ≤ 9000) ∧ Below w.heap.size w w'

set_option maxRecDepth 100000 in
set_option maxHeartbeats 1000000 in
theorem small_any (v : Value) (l : List Itm) (w : World) (hr : ReadsIt w w.heap.size v l) (hok : ∀ x ∈ l, x.key.size ≤ 9223372036854775807 ∧ x.val.size ≤ 9223372036854775807) :
    Calls Tryz.prog 5 #[v] w (SmallTo l w) := by
  obtain ⟨A, c, rfl, hlc, hcm, _, hc⟩ := hr
  have hl63 : l.length ≤ 9223372036854775807 := by unfold maxLen at hcm; omega
  clear hlc hcm
  go_enter Tryz.func5, Tryz.ntmps5
  go_wp2_with fail
  go_loopw [3, 4] (fun x i wr => ∃ (y : Int) (k : Nat), x = .int .i64 y ∧ i = .int .i64 k ∧ k ≤ l.length ∧ k ≤ 300 ∧ -1 ≤ y ∧ y ≤ 9000 ∧ (0 ≤ y → y + sizesI (l.take k) = 9000) ∧ Below w.heap.size w wr) (fun _ i _ => l.length - (intOf i).toNat)
  case atStart => exact ⟨9000, 0, rfl, rfl, by omega, by omega, by omega, by omega, fun _ => by simp [sizesI], Below.refl _ _⟩
  case round =>
    obtain ⟨y, k, rfl, rfl, hk, hk3, hy1, hy2, hy3, hbl⟩ := hrel
    have hbs := hbl.size
    by_cases hlt : k < l.length
    · by_cases h300 : k < 300
      · by_cases hy0 : 0 ≤ y
        · obtain ⟨b, off, rfl, hbb, hcell⟩ := hc (by omega)
          obtain ⟨c0, c1, _, _⟩ := (hcell.below hbl hbb) k hlt
          have hx := hok l[k] (by simp)
          have HS : Hid (sizesI (l.take (k + 1)) = sizesI (l.take k) + (l[k].key.size + l[k].val.size)) := Lib.hid (by rw [take_snoc1 l k hlt, sizesI_snoc])
          generalize l[k] = x at *
          have HR := Lib.hid (fun g W hc0 hc1 => room2_any y x.key.size x.val.size g W hy1 hy2 (by omega) (by omega) (by omega) (by omega) hc0 hc1)
          have HH := Lib.hid (And.intro hy3 hbl)
          have hk0 : (0 : Int) ≤ k := by omega
          have hk300 : (k : Int) < 300 := by omega
          have hkl : (k : Int) < l.length := by omega
          clear hc hcell hx hy3 hbl
          go_wp2_with fail
          have hkc : ∀ W, Below wr.heap.size wr W → W.cell? ⟨b, off + k * 4, none⟩ = some (.string x.key) ∧ W.cell? ⟨b, off + k * 4 + 1, none⟩ = some (.string x.val) := fun W hb =>
            ⟨(hb.cell (p := ⟨b, off + k * 4, none⟩) (Nat.lt_of_lt_of_le hbb hbs)).trans c0, (hb.cell (p := ⟨b, off + k * 4 + 1, none⟩) (Nat.lt_of_lt_of_le hbb hbs)).trans c1⟩
          have HKC := Lib.hid hkc
          clear hkc
          go_region_held3 (fun w' => w'.cell? ⟨b, off + k * 4, none⟩ = some (.string x.key) ∧ w'.cell? ⟨b, off + k * 4 + 1, none⟩ = some (.string x.val)) (exact HKC.out _ (by first | exact (Below.refl _ _).drew | exact ((Below.refl _ _).drew).alloc (Nat.le_refl _) _ | exact (((Below.refl _ _).alloc (Nat.le_refl _) _).drew) | assumption)) (first
            | (go_at_call 48; ((with_reducible refine (HR.out _ _ ?_ ?_).mono ?_)); (go_simp); (go_simp); rintro e w2 ⟨r, rfl, hr1, hr2, hr3, hb2⟩; have hb2' : Below wr.heap.size wr w2 := (by first | exact (((Below.refl _ _).drew).alloc (Nat.le_refl _) _).trans (hb2.mono (Below.size (((Below.refl wr.heap.size wr).drew).alloc (Nat.le_refl _) _))) | exact (((Below.refl _ _).alloc (Nat.le_refl _) _).drew).trans (hb2.mono (Below.size (((Below.refl wr.heap.size wr).alloc (Nat.le_refl _) _).drew)))) ))
          have HF := Lib.hid (And.intro hr3 hb2')
          clear hr3 hb2' hb2 c0 c1
          go_wp2_with fail
          go_roundw
          case rel => exact ⟨r, k + 1, rfl, by go_num, by omega, by omega, hr1, hr2, fun h => by
            have h1 := HF.out.1 h
            have h2 := HH.out.1 h1.1
            have h3 := HS.out
            omega, HH.out.2.trans (HF.out.2.mono hbs)⟩
          case measure => simp [intOf]; omega
        · have hkl : (k : Int) < l.length := by omega
          have hk300 : (k : Int) < 300 := by omega
          have HH := Lib.hid hbl
          clear hc hbl hy3
          go_wp2_with fail
          all_goals
            go_ret
            exact ⟨_, rfl, fun h => by (first | (simp at h; done) | (simp at h; omega) | omega), HH.out⟩
      · have hk300 : ¬ (k : Int) < 300 := by omega
        have hkl : (k : Int) < l.length := by omega
        have HH := Lib.hid hbl
        clear hc hbl hy3
        go_wp2_with fail
        all_goals
          go_ret
          exact ⟨_, rfl, fun h => by (first | (simp at h; done) | (simp at h; omega) | omega), HH.out⟩
    · obtain rfl : k = l.length := by omega
      rw [List.take_length] at hy3
      have HH := Lib.hid (And.intro hy3 hbl)
      clear hc hbl hy3
      go_wp2_with fail
      all_goals
        go_ret
        refine ⟨_, rfl, fun h => ?_, HH.out.2⟩
        have := HH.out.1
        first | (simp at h; done) | (simp at h; omega) | omega
end Go.Proofs.YtpfifmjcmpankaaGreat
