/-
  The bytes of texts, counted. Walks over the statements' book: how much room is left; are texts few and short.
-/
import Derived.Test.YtlalhinodmmgfaaGreatMg11
import Derived.Test.YtlalhinodmmgfaaGreatMg12
namespace Go.Proofs.YtlalhinodmmgfaaGreat
open Go.RowKit Go.Lib

def sizes (l : List ByteArray) : Nat := (l.map ByteArray.size).sum
theorem sizes_take (l : List ByteArray) (k : Nat) : sizes (l.take k) ≤ sizes l := by
  have : sizes l = sizes (l.take k) + sizes (l.drop k) := by unfold sizes; rw [← List.sum_append, ← List.map_append, List.take_append_drop]
  omega
theorem sizes_mem (l : List ByteArray) (s : ByteArray) (h : s ∈ l) : s.size ≤ sizes l := by
  induction l with
  | nil => simp at h
  | cons a r ih =>
    simp only [sizes, List.map_cons, List.sum_cons] at *
    rcases List.mem_cons.1 h with rfl | h
    · omega
    · have := ih h
      omega
end Go.Proofs.YtlalhinodmmgfaaGreat

namespace Go.Proofs.YtlalhinodmmgfaaGreat
open Go.RowKit Go.Lib

def roomOf (left x : Int) : Int := if left < 0 ∨ left < x then -1 else left - x

set_option maxRecDepth 1000000 in
set_option maxHeartbeats 400000 in
theorem room_one (left x : Int) (w : World) (hl : IsInt left) (hx : 0 ≤ x) : Calls Tryz.prog 19 #[.int .i64 left, .slice (some ⟨w.heap.size, 0, none⟩) 1 1] (w.alloc (.cells #[.int .i64 x] 3)) fun e w' => e = .returned (.int .i64 (roomOf left x)) ∧ Below w.heap.size w w' := by
  have hl1 := hl.1
  have hl2 := hl.2
  have hB : Below w.heap.size w (w.alloc (.cells #[.int .i64 x] 3)) := (Below.refl _ _).alloc (Nat.le_refl _) _
  have hc : (w.alloc (.cells #[.int .i64 x] 3)).cell? ⟨w.heap.size, 0, none⟩ = some (.int .i64 x) := (Has.made w 3 #[.int .i64 x]).cell 0
  have HB := Lib.hid hB
  clear hB hl
  generalize w.alloc (.cells #[.int .i64 x] 3) = w1 at *
  go_enter Tryz.func19, Tryz.ntmps19
  go_wp2
  go_loop [0, 5] (fun v i => (i = .int .i64 0 ∧ v = .int .i64 left) ∨ (i = .int .i64 1 ∧ v = .int .i64 (left - x) ∧ 0 ≤ left ∧ x ≤ left)) (fun _ i => (1 - intOf i).toNat)
  case atStart => exact Or.inl ⟨rfl, rfl⟩
  case round =>
    rcases hrel with ⟨rfl, rfl⟩ | ⟨rfl, rfl, h0, h1⟩
    · by_cases h0 : left < 0
      · have hz : roomOf left x = -1 := by unfold roomOf; rw [if_pos (Or.inl h0)]
        have HZ := Lib.hid hz
        clear hz
        go_wp2
        rw [HZ.out]
        go_ret
        exact ⟨rfl, HB.out⟩
      · by_cases h1 : left < x
        · have hz : roomOf left x = -1 := by unfold roomOf; rw [if_pos (Or.inr h1)]
          have HZ := Lib.hid hz
          clear hz
          go_wp2
          rw [HZ.out]
          go_ret
          exact ⟨rfl, HB.out⟩
        · go_wp2
          exact ⟨Or.inr ⟨rfl, rfl, by omega, by omega⟩, by simp [intOf]⟩
    · have hz : roomOf left x = left - x := by unfold roomOf; rw [if_neg (by omega)]
      have HZ := Lib.hid hz
      clear hz
      go_wp2
      rw [HZ.out]
      go_ret
      exact ⟨rfl, HB.out⟩

/-- What is left of room behind texts. -/
def leftOf (room : Nat) (l : List ByteArray) : Int := if sizes l ≤ room then (room : Int) - sizes l else -1
theorem sizes_snoc (l : List ByteArray) (s : ByteArray) : sizes (l ++ [s]) = sizes l + s.size := by simp [sizes]
theorem left_step {room : Nat} {l : List ByteArray} {s : ByteArray} (h : 0 ≤ leftOf room l) : roomOf (leftOf room l) s.size = leftOf room (l ++ [s]) := by
  unfold leftOf at *
  rw [sizes_snoc]
  split at h
  · rename_i h1
    rw [if_pos h1]
    unfold roomOf
    by_cases h2 : sizes l + s.size ≤ room
    · rw [if_pos h2, if_neg (by omega)]; omega
    · rw [if_neg h2, if_pos (by omega)]
  · omega

set_option maxRecDepth 1000000 in
set_option maxHeartbeats 400000 in
theorem short_any (few room : Nat) (v : Value) (l : List ByteArray) (w : World) (hf : few ≤ 1000000) (hro : room ≤ 1000000) (hr : Reads1 w w.heap.size v (l.map Value.string)) (hl : l.length ≤ 9223372036854775807) (hs : ∀ s ∈ l, s.size ≤ 9223372036854775807)
    (b : Bool) (hb : b = decide (l.length ≤ few ∧ sizes l ≤ room)) :
    Calls Tryz.prog 4 #[.int .i64 few, .int .i64 room, v] w fun e w' => e = .returned (.bool b) ∧ Below w.heap.size w w' := by
  obtain ⟨A, c, rfl, hc⟩ := hr
  simp only [List.length_map] at hc ⊢
  by_cases hfew : few < l.length
  · have hbf : b = false := by rw [hb]; simp; omega
    have HB := Lib.hid hbf
    clear hb hbf
    go_enter Tryz.func4, Tryz.ntmps4
    go_wp2
    rw [HB.out]
    go_ret
    exact ⟨rfl, Below.refl _ _⟩
  · have HB := Lib.hid hb
    clear hb
    go_enter Tryz.func4, Tryz.ntmps4
    go_wp2
    go_loopw [1, 7] (fun r i wr => ∃ k : Nat, k ≤ l.length ∧ i = .int .i64 k ∧ r = .int .i64 (leftOf room (l.take k)) ∧ Below w.heap.size w wr) (fun _ i _ => l.length - (intOf i).toNat)
    case atStart => exact ⟨0, Nat.zero_le _, rfl, by simp [leftOf, sizes], Below.refl _ _⟩
    case round =>
      obtain ⟨k, hk, rfl, rfl, hbl⟩ := hrel
      have hbs := hbl.size
      have hlo : -1 ≤ leftOf room (l.take k) ∧ leftOf room (l.take k) ≤ 1000000 := by unfold leftOf; split <;> omega
      by_cases hlt : k < l.length
      · by_cases hneg : leftOf room (l.take k) < 0
        · have hbf : b = false := by
            rw [HB.out]
            unfold leftOf at hneg
            have := sizes_take l k
            simp
            intro _
            split at hneg <;> omega
          have HBF := Lib.hid hbf
          clear hbf
          generalize leftOf room (l.take k) = L at *
          have hd : decide (0 ≤ L) = false := by simp; omega
          go_wp2
          rw [HBF.out]
          go_ret
          exact ⟨rfl, hbl⟩
        · obtain ⟨b0, off, rfl, hbb, hcell⟩ := hc (by omega)
          have hck : wr.cell? ⟨b0, off + k, none⟩ = some (.string l[k]) := (hbl.cell (p := ⟨b0, off + k, none⟩) hbb).trans (hcell k _ (by simp [hlt]))
          have hsk := hs l[k] (by simp)
          have hst := left_step (s := l[k]) (show 0 ≤ leftOf room (l.take k) by omega)
          rw [← take_snoc1 l k hlt] at hst
          generalize l[k] = s at *
          generalize leftOf room (l.take k) = L at *
          have HST := Lib.hid hst
          have hi : IsInt L := ⟨by omega, by omega⟩
          clear hst hc hcell hs
          go_wp2_with (go_at_call 19; refine (room_one L s.size _ hi (by omega)).mono ?_; rintro e w' ⟨rfl, hb2⟩)
          rw [HST.out]
          go_roundw
          case rel => exact ⟨k + 1, by omega, by go_num, rfl, hbl.trans (hb2.mono hbs)⟩
          case measure => simp [intOf]; omega
      · have hkl : k = l.length := by omega
        have hbf : b = decide (0 ≤ leftOf room (l.take k)) := by
          rw [HB.out, hkl, List.take_length]
          unfold leftOf
          rw [Bool.eq_iff_iff]
          simp
          split <;> omega
        have HBF := Lib.hid hbf
        clear hbf
        generalize leftOf room (l.take k) = L at *
        go_wp2
        rw [HBF.out]
        go_ret
        exact ⟨rfl, hbl⟩
end Go.Proofs.YtlalhinodmmgfaaGreat
