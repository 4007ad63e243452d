/-
  Walks over the statements' book: a list of texts of the call's own, of the same texts; of R6, beside B3. The book's names, the marks of lists of texts.
-/
import Derived.Test.YtlalhinodmmgfaaGreatMg8
import Derived.Test.YtlalhinodmmgfaaGreatMg11
import Derived.Test.YtlalhinodmmgfaaGreatMg2
namespace Go.Proofs.YtlalhinodmmgfaaGreat
open Go.RowKit Go.Lib

theorem Tryz.infoStr : (Tryz.prog.info? 9).map (fun i => (i.zero, i.size, i.bytes)) = some (some (.string ⟨#[]⟩), 1, 16) := by kernel_rfl
def markS : Value := .string ⟨#[109, 97, 114, 107]⟩

set_option maxRecDepth 1000000 in
set_option maxHeartbeats 400000 in
theorem lentTexts_any (v : Value) (vals : List Value) (w : World) (hr : Reads1 w w.heap.size v vals) (hform : ∀ n c, v = .slice none n c → n = 0 ∧ c = 0) (h1 : ∀ u ∈ vals, u.oneCell' = true) (hl : vals.length ≤ 1000000) :
    Calls Tryz.prog 7 #[v] w fun e w' => ∃ v', e = .returned v' ∧ Lent w' w.heap.size vals markS v' ∧ Below w.heap.size w w' := by
  have hv : ∃ A c, v = .slice A vals.length c := by obtain ⟨A, c, h, _⟩ := hr; exact ⟨A, c, h⟩
  obtain ⟨A, c, rfl⟩ := hv
  go_enter Tryz.func7, Tryz.ntmps7
  go_wp2_with (at_builtin; first | (refine append_copy rfl _ _ 23 9 (.string ⟨#[]⟩) 16 Tryz.underlying23 Tryz.infoStr rfl (by decide) rfl w.heap.size w rfl w.heap.size (.slice A vals.length c) rfl vals hr hform h1 hl (Nat.le_refl _) ?_; intro v1 w1 hown hb1) | (refine append_mark rfl _ _ 23 9 (.string ⟨#[]⟩) 16 Tryz.underlying23 Tryz.infoStr rfl (by decide) rfl w.heap.size w1 v1 rfl vals hown markS rfl rfl hl hb1.size ?_; intro g cap w2 hlent hcap hb2))
  go_ret
  exact ⟨_, rfl, hlent, hb1.trans hb2⟩

set_option maxRecDepth 1000000 in
set_option maxHeartbeats 800000 in
theorem sameTexts_any (v1 v2 : Value) (l : List ByteArray) (w : World) (hr1 : Reads1 w w.heap.size v1 (l.map (Value.string))) (hr2 : Reads1 w w.heap.size v2 (l.map (Value.string))) (hl : l.length ≤ 1000000) :
    Calls Tryz.prog 12 #[v1, v2] w fun e w' => e = .returned (.bool true) ∧ Below w.heap.size w w' := by
  obtain ⟨A1, c1, rfl, hc1⟩ := hr1
  obtain ⟨A2, c2, rfl, hc2⟩ := hr2
  simp only [List.length_map] at hc1 hc2 ⊢
  go_enter Tryz.func12, Tryz.ntmps12
  go_wp2
  go_loopw [5] (fun i wr => ∃ k : Nat, k ≤ l.length ∧ i = .int .i64 k ∧ Below w.heap.size w wr) (fun i _ => l.length - (RowKit.intOf i).toNat)
  case atStart => exact ⟨0, Nat.zero_le _, rfl, Below.refl _ _⟩
  case round =>
    obtain ⟨k, hk, rfl, hbl⟩ := hrel
    have hbs := hbl.size
    by_cases hlt : k < l.length
    · obtain ⟨b1, o1, rfl, hbb1, hcell1⟩ := hc1 (by omega)
      obtain ⟨b2, o2, rfl, hbb2, hcell2⟩ := hc2 (by omega)
      have hck1 : wr.cell? ⟨b1, o1 + k, none⟩ = some (.string l[k]) := (hbl.cell (p := ⟨b1, o1 + k, none⟩) hbb1).trans (hcell1 k _ (by simp [hlt]))
      have hck2 : wr.cell? ⟨b2, o2 + k, none⟩ = some (.string l[k]) := (hbl.cell (p := ⟨b2, o2 + k, none⟩) hbb2).trans (hcell2 k _ (by simp [hlt]))
      generalize l[k] = x at *
      clear hc1 hc2 hcell1 hcell2
      have hlt' : (k : Int) < (l.length : Int) := by omega
      go_wp2_with fail
      go_quiet (fail)
      go_wp2
      exact ⟨⟨k + 1, by omega, by go_num, below_drewN hbl nq⟩, by simp [RowKit.intOf]; omega⟩
    · go_wp2
      go_ret
      exact ⟨rfl, hbl⟩

set_option maxRecDepth 1000000 in
set_option maxHeartbeats 800000 in
theorem staysTexts_any (base : Nat) (v1 v2 : Value) (l : List ByteArray) (w : World) (hr1 : Lent w base (l.map (Value.string)) markS v1) (hr2 : Reads1 w w.heap.size v2 (l.map (Value.string))) (hl : l.length ≤ 1000000) :
    Calls Tryz.prog 15 #[v1, v2] w fun e w' => e = .returned (.bool true) ∧ Below w.heap.size w w' := by
  have hsame := sameTexts_any v1 v2 l w hr1.reads hr2 hl
  obtain ⟨g, cap, rfl, h1, h2, h3, h4, h5⟩ := hr1
  simp only [List.length_map] at hsame h3 ⊢
  have hck : w.cell? ⟨g, l.length, none⟩ = some markS := h5 l.length _ (by simp)
  clear h5 hr2
  go_enter Tryz.func15, Tryz.ntmps15
  go_wp2_with fail
  refine hsame.mono ?_
  rintro e w1 ⟨rfl, hb1⟩
  have hck1 : w1.cell? ⟨g, l.length, none⟩ = some (.string ⟨#[109, 97, 114, 107]⟩) := (hb1.cell (p := ⟨g, l.length, none⟩) h2).trans hck
  have hlc : (l.length : Int) + 1 ≤ (cap : Int) := by omega
  go_wp2
  go_ret
  exact ⟨rfl, hb1⟩

end Go.Proofs.YtlalhinodmmgfaaGreat

namespace Go.Proofs.YtlalhinodmmgfaaGreat
open Go.RowKit Go.Lib

/-- The name of mark k of list i. -/
def nameX (i k : Nat) : List Int := [109, 65 + (i : Int) % 26, 65 + (i : Int) / 26 % 26, 48 + (k : Int) % 10, 48 + (k : Int) / 10 % 10, 48 + (k : Int) / 100 % 10]
def nameB (i k : Nat) : ByteArray := strOfNums (nameX i k)

set_option maxRecDepth 100000 in
set_option maxHeartbeats 1000000 in
theorem name_any (i k : Nat) (w : World) (hi : i ≤ 1000) (hk : k ≤ 4000000) :
    Calls Tryz.prog 121 #[.int .i64 i, .int .i64 k] w fun e w' => e = .returned (.string (nameB i k)) ∧ Below w.heap.size w w' := by
  have i0 : (0 : Int) ≤ i := by omega
  have i1 : (i : Int) ≤ 1000 := by omega
  have k0 : (0 : Int) ≤ k := by omega
  have k1 : (k : Int) ≤ 4000000 := by omega
  go_enter Tryz.func121, Tryz.ntmps121
  go_wp2_with fail
  rw [run_convert_bytes_arg _ 116 5 Tryz.underlying116 Tryz.underlying5 w.heap.size 0 6 6 (nameX i k) rfl (fun j hj => by
    rw [Nat.zero_add, (Has.made w 5 _).cell j]
    rcases (by omega : j = 0 ∨ j = 1 ∨ j = 2 ∨ j = 3 ∨ j = 4 ∨ j = 5) with rfl | rfl | rfl | rfl | rfl | rfl <;> rfl) 9 Tryz.underlying9]
  simp only [Result.andThen]
  rw [Oper.upon_value]
  have hb : Below w.heap.size w (w.alloc (.cells #[.int .u8 109, .int .u8 (65 + (i : Int) % 26), .int .u8 (65 + (i : Int) / 26 % 26), .int .u8 (48 + (k : Int) % 10), .int .u8 (48 + (k : Int) / 10 % 10), .int .u8 (48 + (k : Int) / 100 % 10)] 5)) := (Below.refl _ _).alloc (Nat.le_refl _) _
  have hn : strOfNums (nameX i k) = nameB i k := rfl
  rw [hn]
  obtain ⟨nb, hnb⟩ : ∃ x, nameB i k = x := ⟨_, rfl⟩
  have HN := Lib.hid hnb
  rw [hnb]
  have HB := Lib.hid hb
  clear hb hn hnb
  go_wp2_with fail
  go_ret
  exact ⟨by rw [HN.out]; rfl, HB.out⟩

def cellsT (l : List ByteArray) : List Value := l.map Value.string
theorem cellsT_append (l m : List ByteArray) : cellsT (l ++ m) = cellsT l ++ cellsT m := by simp [cellsT]
theorem text_one {l : List ByteArray} : ∀ u ∈ cellsT l, u.oneCell' = true := by
  intro u hu
  obtain ⟨x, _, rfl⟩ := List.mem_map.1 hu
  rfl
end Go.Proofs.YtlalhinodmmgfaaGreat
