/-
  Walks over package num: what lays numbers, texts and truths as bytes.
-/
import Derived.Test.YtpfifmjcmpankaaGreatMg6
import Derived.Test.YtpfifmjcmpankaaGreatMg9
namespace Go.Proofs.YtpfifmjcmpankaaGreat
open Go.RowKit Go.Lib

theorem uv_last {m l : List UInt8} {u y : Nat} (h : m ++ uvarint y = l ++ uvarint u) (hy : ¬ 128 ≤ y) : m ++ [y.toUInt8] = l ++ uvarint u := by
  rw [← h, uvarint_small (by omega)]
theorem uv_more {m l : List UInt8} {u y : Nat} (h : m ++ uvarint y = l ++ uvarint u) (hy : 128 ≤ y) : (m ++ [(y % 128 + 128).toUInt8]) ++ uvarint (y / 128) = l ++ uvarint u := by
  rw [← h, uvarint_big hy]
  simp

set_option maxRecDepth 1000000 in
set_option maxHeartbeats 400000 in
theorem addVar_any (base : Nat) (bv : Value) (l : List UInt8) (v : Int) (w : World) (h0 : -9223372036854775808 ≤ v) (h1 : v ≤ 9223372036854775807) (hown : Row w base bv l) (hb : base ≤ w.heap.size) (hlen : l.length ≤ 35184372088832) :
    Calls Tryz.prog 129 #[bv, .int .i64 v] w (Laid base (l ++ uvarint (zigzag v)) w) := by
  have hz := zigzag_lt h0 h1
  generalize hu : zigzag v = u at hz ⊢
  have huns := uns_any v h0 h1 w
  rw [hu] at huns
  clear hu h0 h1
  go_enter Tryz.func129, Tryz.ntmps129
  go_wp2_with (go_at_call 164; refine huns.mono ?_; rintro e w' ⟨rfl, rfl⟩)
  go_loopw [0, 5] (fun b x wr => ∃ (y : Nat) (m : List UInt8), x = .int .u64 y ∧ y < 18446744073709551616 ∧ Row wr base b m ∧ m ++ uvarint y = l ++ uvarint u ∧ m.length + (uvarint y).length ≤ l.length + (uvarint u).length ∧ Below base w wr)
    (fun _ x _ => (intOf x).toNat)
  case atStart => exact ⟨u, l, rfl, hz, hown, rfl, Nat.le_refl _, Below.refl _ _⟩
  case round =>
    obtain ⟨y, m, rfl, hy, hr, hm, hml, hbl⟩ := hrel
    have h10 := uvarint_length64 hz
    have HM := Lib.hid hm
    have hbs := hbl.size
    have hlm : m.length ≤ 70368744177664 := by omega
    by_cases hge : 128 ≤ y
    · have hor : bits BinOp.or IntKind.u8 ((y : Int) % 256) 128 = ((y % 128 + 128 : Nat) : Int) := by rw [u8_or128_any _ (by omega) (by omega)]; omega
      have HOR := Lib.hid hor
      have hml2 : (uvarint (y / 128)).length + 1 = (uvarint y).length := by rw [uvarint_big hge]; rfl
      have HML : Hid ((m ++ [(y % 128 + 128).toUInt8]).length + (uvarint (y / 128)).length ≤ l.length + (uvarint u).length) := by show (m ++ _).length + _ ≤ _; simp; omega
      clear hm hml hor hml2
      go_wp2_with (at_builtin; go_must (refine append_byte rfl _ _ rfl base wr u0 m rfl hr _ (y % 128 + 128) rfl HOR.out (by omega) hlm (by omega) ?_); intro b' w1 hr1 hb1)
      go_roundw
      case rel => exact ⟨y / 128, m ++ [(y % 128 + 128).toUInt8], by go_num, by omega, hr1, uv_more HM.out hge, HML.out, hbl.trans hb1⟩
      case measure => simp [intOf]; omega
    · clear hm hml
      go_wp2_with (at_builtin; refine append_byte rfl _ _ rfl base wr u0 m rfl hr _ y rfl (by omega) (by omega) hlm (by omega) ?_; intro b' w1 hr1 hb1)
      rw [uv_last HM.out hge] at hr1
      go_ret
      exact ⟨_, rfl, hr1, hbl.trans hb1⟩
end Go.Proofs.YtpfifmjcmpankaaGreat
