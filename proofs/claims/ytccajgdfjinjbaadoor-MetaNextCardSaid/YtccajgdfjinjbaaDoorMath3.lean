/-
  Plain mathematics: one byte that is changed changes the sum.
-/
import Derived.Test.YtccajgdfjinjbaaDoorW8
namespace Go.Proofs.YtccajgdfjinjbaaDoor
open Go.Lib

theorem step1_inj {x y : Nat} (hx : x < 4294967296) (hy : y < 4294967296) (h : step1 x = step1 y) : x = y := by
  have top : ∀ u v : Nat, u < 2147483648 → v < 2147483648 → u ^^^ 3988292384 ≠ v := fun u v hu hv e => by
    have h1 := congrArg (fun n => n.testBit 31) e
    simp only [Nat.testBit_xor] at h1
    rw [Nat.testBit_lt_two_pow (show u < 2 ^ 31 from hu), Nat.testBit_lt_two_pow (show v < 2 ^ 31 from hv)] at h1
    exact absurd h1 (by decide)
  have inj : ∀ u v : Nat, u ^^^ 3988292384 = v ^^^ 3988292384 → u = v := fun u v e => by
    have h1 := congrArg (fun n => n ^^^ 3988292384) e
    simpa [Nat.xor_assoc] using h1
  unfold step1 at h
  split at h
  · split at h
    · have := inj _ _ h
      omega
    · exact absurd h (top _ _ (by omega) (by omega))
  · split at h
    · exact absurd h.symm (top _ _ (by omega) (by omega))
    · omega

theorem steps_inj : ∀ (k : Nat) {x y : Nat}, x < 4294967296 → y < 4294967296 → steps k x = steps k y → x = y
  | 0, _, _, _, _, h => h
  | k + 1, _, _, hx, hy, h => step1_inj hx hy (steps_inj k (step1_lt hx) (step1_lt hy) h)

theorem crcByte_inj {x y : Nat} {c : UInt8} (hx : x < 4294967296) (hy : y < 4294967296) (h : crcByte x c = crcByte y c) : x = y := by
  have hc := c.toNat_lt
  have h1 := steps_inj 8 (xor_lt32 hx (by omega)) (xor_lt32 hy (by omega)) h
  have h2 := congrArg (fun n => n ^^^ c.toNat) h1
  simpa [Nat.xor_assoc] using h2
theorem crcByte_ne {x : Nat} {c d : UInt8} (hx : x < 4294967296) (hcd : c ≠ d) : crcByte x c ≠ crcByte x d := fun h => by
  have hc := c.toNat_lt
  have hd := d.toNat_lt
  have h1 := steps_inj 8 (xor_lt32 hx (by omega)) (xor_lt32 hx (by omega)) h
  have h2 := congrArg (fun n => x ^^^ n) h1
  simp only [← Nat.xor_assoc, Nat.xor_self, Nat.zero_xor] at h2
  exact hcd (UInt8.toNat_inj.1 h2)
theorem crcFrom_inj : ∀ (l : List UInt8) {x y : Nat}, x < 4294967296 → y < 4294967296 → crcFrom x l = crcFrom y l → x = y
  | [], _, _, _, _, h => h
  | _ :: r, _, _, hx, hy, h => crcByte_inj hx hy (crcFrom_inj r (crcByte_lt hx) (crcByte_lt hy) h)

theorem crcB_change (l : List UInt8) (i : Nat) (c d : UInt8) (hi : l[i]? = some c) (hcd : c ≠ d) : crcB (l.set i d) ≠ crcB l := by
  have hlen : i < l.length := (List.getElem?_eq_some_iff.1 hi).1
  have hl : l = l.take i ++ c :: l.drop (i + 1) := by
    have h1 := List.drop_eq_getElem_cons hlen
    have h2 : l[i] = c := (List.getElem?_eq_some_iff.1 hi).2
    rw [h2] at h1
    rw [← h1, List.take_append_drop]
  have hs : l.set i d = l.take i ++ d :: l.drop (i + 1) := List.set_eq_take_append_cons_drop ▸ (by rw [if_pos hlen])
  intro h
  unfold crcB at h
  have h1 := crcFrom_lt (l.set i d) 4294967295 (by decide)
  have h2 := crcFrom_lt l 4294967295 (by decide)
  have h3 : crcFrom 4294967295 (l.set i d) = crcFrom 4294967295 l := by omega
  rw [hs] at h3
  conv at h3 => rhs; rw [hl]
  rw [crcFrom_append, crcFrom_append] at h3
  have hx := crcFrom_lt (l.take i) 4294967295 (by decide)
  exact crcByte_ne hx hcd.symm (crcFrom_inj (l.drop (i + 1)) (crcByte_lt hx) (crcByte_lt hx) h3)

theorem crcB_lt (l : List UInt8) : crcB l < 4294967296 := by unfold crcB; omega

end Go.Proofs.YtccajgdfjinjbaaDoor
