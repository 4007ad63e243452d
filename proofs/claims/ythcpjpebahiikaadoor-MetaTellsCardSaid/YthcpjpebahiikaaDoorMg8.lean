/-
  Numbers as bytes, there and back: nothing of the program stands here.
-/
import Derived.Test.YthcpjpebahiikaaDoorMg6
import Derived.Test.YthcpjpebahiikaaDoorMg7
namespace Go.Proofs.YthcpjpebahiikaaDoor
open Go.RowKit Go.Lib

theorem eta (x : ByteArray) : (⟨x.data.toList.toArray⟩ : ByteArray) = x := by
  apply ByteArray.ext
  simp

theorem unleb_leb : ∀ (n v : Nat), v < 2 ^ (8 * n) → unleb (leb n v) = v
  | 0, v, h => by simp at h; subst h; rfl
  | n + 1, v, h => by
    have h1 : v / 256 < 2 ^ (8 * n) := by
      rw [show 8 * (n + 1) = 8 * n + 8 by omega, Nat.pow_add] at h
      exact Nat.div_lt_of_lt_mul (by rw [Nat.mul_comm]; exact h)
    rw [leb, unleb, unleb_leb n _ h1, toUInt8_toNat (by omega)]
    omega

theorem leb_unleb : ∀ l : List UInt8, leb l.length (unleb l) = l
  | [] => rfl
  | c :: r => by
    have hc := c.toNat_lt
    have h1 : (c.toNat + 256 * unleb r) % 256 = c.toNat := by omega
    have h2 : (c.toNat + 256 * unleb r) / 256 = unleb r := by omega
    rw [List.length_cons, unleb, leb, h1, h2, leb_unleb r]
    congr 1
    exact UInt8.toNat_inj.1 (toUInt8_toNat hc)
theorem leb_inj {n a b : Nat} (ha : a < 2 ^ (8 * n)) (hb : b < 2 ^ (8 * n)) (h : leb n a = leb n b) : a = b := by
  rw [← unleb_leb n a ha, ← unleb_leb n b hb, h]
theorem unleb_inj {a b : List UInt8} (hl : a.length = b.length) (h : unleb a = unleb b) : a = b := by
  rw [← leb_unleb a, ← leb_unleb b, hl, h]
end Go.Proofs.YthcpjpebahiikaaDoor
