/-
  A text as bytes of which one is changed; a number with its lowest bit turned.
-/
import Derived.Test.YthcpjpebahiikaaDoorMg13
import Derived.Test.YthcpjpebahiikaaDoorMg18
import Derived.Lib.ConvBytes
namespace Go.Proofs.YthcpjpebahiikaaDoor
open Go.RowKit Go.Lib

/-- The bytes of a text, one of them changed, as they stand in the block that '[]byte(s)' has made. -/
theorem made {s : ByteArray} {w : World} {i : Nat} {d : UInt8} (hi : i < s.size) :
    let w2 := (bytesWorld w 5 s).setCell ⟨w.heap.size, i, none⟩ (.int .u8 (d.toNat : Int))
    Below w.heap.size w w2 ∧ w2.heap.size = w.heap.size + 1 ∧ ∀ j, j < s.size → w2.cell? ⟨w.heap.size, 0 + j, none⟩ = some (.int .u8 (((s.data.toList.set i d).map fun c => (c.toNat : Int)).getD j 0)) := by
  intro w2
  have hsz : (bytesWorld w 5 s).heap.size = w.heap.size + 1 := bytesWorld_size w 5 s
  have hb : Below w.heap.size w (bytesWorld w 5 s) := ⟨rfl, rfl, rfl, by rw [hsz]; omega, fun k hk => bytesWorld_at_old w 5 s k hk⟩
  refine ⟨hb.setCell (Nat.le_refl _) _, by show (World.setCell _ _ _).heap.size = _; rw [← hsz]; simp [World.setCell], fun j hj => ?_⟩
  rw [Nat.zero_add]
  by_cases e : j = i
  · subst e
    have h1 : w2.cell? ⟨w.heap.size, j, none⟩ = some (.int .u8 (d.toNat : Int)) := by
      have hc := bytesWorld_cell w 5 s j hi
      exact World.cell?_setCell_same (bytesWorld w 5 s) ⟨w.heap.size, j, none⟩ _ hc
    rw [h1]
    simp [List.getD, hj]
  · have h1 : w2.cell? ⟨w.heap.size, j, none⟩ = (bytesWorld w 5 s).cell? ⟨w.heap.size, j, none⟩ := World.cell?_setCell_other (bytesWorld w 5 s) ⟨w.heap.size, i, none⟩ ⟨w.heap.size, j, none⟩ _ (by intro h; injection h with _ h; exact e h.symm)
    rw [h1, bytesWorld_cell w 5 s j hj]
    simp [List.getD, hj, Ne.symm e]

theorem xor_byte (c : UInt8) (b : Int) : ∃ d : UInt8, bits .xor .u8 (c.toNat : Int) (b % 256) = (d.toNat : Int) ∧ (¬ b % 256 = 0 → c ≠ d) := by
  obtain ⟨k, hk⟩ : ∃ k : Nat, b % 256 = k := ⟨(b % 256).toNat, by omega⟩
  have hc := c.toNat_lt
  have hk2 : k < 256 := by omega
  have hx : c.toNat ^^^ k < 256 := Nat.xor_lt_two_pow (n := 8) (by omega) (by omega)
  refine ⟨UInt8.ofNat (c.toNat ^^^ k), ?_, fun h e => ?_⟩
  · rw [hk, u8_xor_nat _ _ (by omega) hk2, UInt8.toNat_ofNat']
    congr 1
    omega
  · have h1 := congrArg UInt8.toNat e
    rw [UInt8.toNat_ofNat', Nat.mod_eq_of_lt (by omega)] at h1
    have h2 := congrArg (fun n => c.toNat ^^^ n) h1
    simp only [← Nat.xor_assoc, Nat.xor_self, Nat.zero_xor] at h2
    omega

/-- The lowest bit turned. -/
theorem flip_bit (n : Nat) (h : n < 4294967296) : ∃ j : Int, bits .xor .i64 (n : Int) 1 = j ∧ j ≠ n := by
  refine ⟨((n ^^^ 1 : Nat) : Int), i64_xor_nat n 1 h (by decide), fun e => ?_⟩
  have h1 : n ^^^ 1 = n := by exact_mod_cast e
  have h2 := congrArg (fun m => n ^^^ m) h1
  simp only [← Nat.xor_assoc, Nat.xor_self, Nat.zero_xor] at h2
  omega

/-- The text of such bytes. -/
theorem changed_text (l : List UInt8) : (strOfNums (l.map fun c => (c.toNat : Int))).data.toList = l := by
  rw [strOfNums_data, List.map_map]
  have e : ((fun n : Int => UInt8.ofNat n.toNat) ∘ fun c : UInt8 => (c.toNat : Int)) = id := by funext c; simp
  rw [e, List.map_id]
end Go.Proofs.YthcpjpebahiikaaDoor
