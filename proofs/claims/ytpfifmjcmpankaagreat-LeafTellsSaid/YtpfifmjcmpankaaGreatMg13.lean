/-
  Plain mathematics: what is laid is read as it was.
-/
import Derived.Test.YtpfifmjcmpankaaGreatMg8
import Derived.Test.YtpfifmjcmpankaaGreatMg12
namespace Go.Proofs.YtpfifmjcmpankaaGreat
open Go.Lib

theorem unzig_zig {v : Int} : unzig (zigzag v) = v := by
  unfold unzig zigzag
  by_cases h : 0 ≤ v
  · rw [if_pos h, if_neg (by omega)]; omega
  · rw [if_neg h, if_pos (by omega)]; omega

theorem rvar_laid {v : Int} (h : IsInt v) (rest : List UInt8) : rvar (uvarint (zigzag v) ++ rest) = (v, rest, 0) := by
  have hg := gscan_laid v h.1 h.2 rest
  unfold rvar
  rw [hg, if_pos rfl, unzig_zig, List.drop_left]

theorem rcount_laid {n : Nat} {most : Int} (h : (n : Int) ≤ most) (hi : n ≤ 9223372036854775807) (rest : List UInt8) : rcount most (uvarint (zigzag (n : Int)) ++ rest) = ((n : Int), rest, 0) := by
  have hr := rvar_laid (v := (n : Int)) ⟨by omega, by omega⟩ rest
  unfold rcount
  rw [hr, if_neg (by simp), if_neg (by simp), if_neg (by simp; omega)]

theorem rtext_laid {s : ByteArray} {most : Int} (h : (s.size : Int) ≤ most) (hi : s.size ≤ 9223372036854775807) (rest : List UInt8) : rtext most (textB s ++ rest) = (s.data.toList, rest, 0) := by
  have hc := rcount_laid h hi (s.data.toList ++ rest)
  rw [← List.append_assoc, ← textB] at hc
  have hl : s.data.toList.length = s.size := by simp
  unfold rtext
  rw [hc, if_neg (by simp), if_neg (by simp; omega), Int.toNat_natCast, ← hl, List.take_left, List.drop_left]

theorem rbool_laid (b : Bool) (rest : List UInt8) : rbool ((if b then 1 else 0) :: rest) = (b, rest, 0) := by
  cases b <;> simp [rbool]

theorem varsB_drop {l : List Int} {k : Nat} (h : k < l.length) : varsB (l.drop k) = uvarint (zigzag l[k]) ++ varsB (l.drop (k + 1)) := by
  rw [List.drop_eq_getElem_cons h]
  rfl
theorem textsB_drop {l : List ByteArray} {k : Nat} (h : k < l.length) : textsB (l.drop k) = textB l[k] ++ textsB (l.drop (k + 1)) := by
  rw [List.drop_eq_getElem_cons h]
  rfl

theorem textsB_drop_len (l : List ByteArray) (k : Nat) : (textsB (l.drop k)).length ≤ (textsB l).length := by
  have h : textsB l = textsB (l.take k) ++ textsB (l.drop k) := by unfold textsB; rw [← List.flatMap_append, List.take_append_drop]
  rw [h, List.length_append]
  omega
theorem varsB_end {l : List Int} {k : Nat} (h : l.length ≤ k) : varsB (l.drop k) = [] := by rw [List.drop_eq_nil_of_le h]; rfl
theorem textsB_end {l : List ByteArray} {k : Nat} (h : l.length ≤ k) : textsB (l.drop k) = [] := by rw [List.drop_eq_nil_of_le h]; rfl

end Go.Proofs.YtpfifmjcmpankaaGreat
