/-
  The book's names, the marks of lists of texts.
-/
import Derived.Test.YtpfifmjcmpankaaGreatMg9
import Derived.Test.YtpfifmjcmpankaaGreatMg3
namespace Go.Proofs.YtpfifmjcmpankaaGreat
open Go.RowKit Go.Lib

/-- The name of mark k of list i. -/
def nameX (i k : Nat) : List Int := [109, 65 + (i : Int) % 26, 65 + (i : Int) / 26 % 26, 48 + (k : Int) % 10, 48 + (k : Int) / 10 % 10, 48 + (k : Int) / 100 % 10]
def nameB (i k : Nat) : ByteArray := strOfNums (nameX i k)

set_option maxRecDepth 100000 in
set_option maxHeartbeats 1000000 in
theorem name_any (i k : Nat) (w : World) (hi : i ≤ 1000) (hk : k ≤ 4000000) :
    Calls Tryz.prog 170 #[.int .i64 i, .int .i64 k] w fun e w' => e = .returned (.string (nameB i k)) ∧ Below w.heap.size w w' := by
  have i0 : (0 : Int) ≤ i := by omega
  have i1 : (i : Int) ≤ 1000 := by omega
  have k0 : (0 : Int) ≤ k := by omega
  have k1 : (k : Int) ≤ 4000000 := by omega
  go_enter Tryz.func170, Tryz.ntmps170
  go_wp2_with fail
  rw [run_convert_bytes_arg _ 80 5 Tryz.underlying80 Tryz.underlying5 w.heap.size 0 6 6 (nameX i k) rfl (fun j hj => by
    rw [Nat.zero_add, (Has.made w 5 _).cell j]
    rcases (by omega : j = 0 ∨ j = 1 ∨ j = 2 ∨ j = 3 ∨ j = 4 ∨ j = 5) with rfl | rfl | rfl | rfl | rfl | rfl <;> rfl) 9 Tryz.underlying9]
  simp only [Result.andThen]
  rw [Oper.upon_value]
  have hb : Below w.heap.size w (w.alloc (.cells #[.int .u8 109, .int .u8 (65 + (i : Int) % 26), .int .u8 (65 + (i : Int) / 26 % 26), .int .u8 (48 + (k : Int) % 10), .int .u8 (48 + (k : Int) / 10 % 10), .int .u8 (48 + (k : Int) / 100 % 10)] 5)) := (Below.refl _ _).alloc (Nat.le_refl _) _
  have hn : strOfNums (nameX i k) = nameB i k := rfl
  rw [hn]
  obtain ⟨nb, hnb⟩ : ∃ x, nameB i k = x := ⟨_, rfl⟩
  have HN := Lib.hid hnb
  rw [hnb]
  have HB := Lib.hid hb
  clear hb hn hnb
  go_wp2_with fail
  go_ret
  exact ⟨by rw [HN.out]; rfl, HB.out⟩

def cellsT (l : List ByteArray) : List Value := l.map Value.string
theorem cellsT_append (l m : List ByteArray) : cellsT (l ++ m) = cellsT l ++ cellsT m := by simp [cellsT]
theorem text_one {l : List ByteArray} : ∀ u ∈ cellsT l, u.oneCell' = true := by
  intro u hu
  obtain ⟨x, _, rfl⟩ := List.mem_map.1 hu
  rfl
end Go.Proofs.YtpfifmjcmpankaaGreat
