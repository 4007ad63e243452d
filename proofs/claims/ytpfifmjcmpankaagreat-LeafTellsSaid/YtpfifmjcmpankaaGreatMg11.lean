/-
  The bytes of texts, counted.
-/
import Derived.Test.YtpfifmjcmpankaaGreatMg9
import Derived.Test.YtpfifmjcmpankaaGreatMg5
namespace Go.Proofs.YtpfifmjcmpankaaGreat
open Go.RowKit Go.Lib

def sizes (l : List ByteArray) : Nat := (l.map ByteArray.size).sum
theorem sizes_take (l : List ByteArray) (k : Nat) : sizes (l.take k) ≤ sizes l := by
  have : sizes l = sizes (l.take k) + sizes (l.drop k) := by unfold sizes; rw [← List.sum_append, ← List.map_append, List.take_append_drop]
  omega
theorem sizes_mem (l : List ByteArray) (s : ByteArray) (h : s ∈ l) : s.size ≤ sizes l := by
  induction l with
  | nil => simp at h
  | cons a r ih =>
    simp only [sizes, List.map_cons, List.sum_cons] at *
    rcases List.mem_cons.1 h with rfl | h
    · omega
    · have := ih h
      omega
end Go.Proofs.YtpfifmjcmpankaaGreat
