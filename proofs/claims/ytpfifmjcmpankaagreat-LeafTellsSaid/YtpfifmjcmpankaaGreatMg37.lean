/-
  Walks over the document's own answers to chapter 1: numbers as bytes, and back.
-/
import Derived.Test.YtpfifmjcmpankaaGreatMg12
namespace Go.Proofs.YtpfifmjcmpankaaGreat
open Go.RowKit Go.Lib

/-! ### Bool, Var, Text, Vars -/

set_option maxHeartbeats 400000 in
theorem refBool_any (b : Bool) (w : World) : Calls Tryz.prog 131 #[.bool b] w fun e w' => e = .returned (.string ⟨#[if b then 1 else 0]⟩) ∧ w = w' := by
  cases b
  · go_enter Tryz.func131, Tryz.ntmps131
    go_wp2
    go_ret
    exact ⟨rfl, rfl⟩
  · go_enter Tryz.func131, Tryz.ntmps131
    go_wp2
    go_ret
    exact ⟨rfl, rfl⟩

theorem zig_nonneg {v : Int} (h : 0 ≤ v) : v * 2 = ((zigzag v : Nat) : Int) := (zigzag_nonneg h).symm

set_option maxRecDepth 1000000 in
set_option maxHeartbeats 800000 in
theorem refVar_any (v : Int) (w : World) (hv : IsInt v) :
    Calls Tryz.prog 132 #[.int .i64 v] w fun e w' => e = .returned (.string ⟨(uvarint (zigzag v)).toArray⟩) ∧ Below w.heap.size w w' := by
  have hz := zigzag_lt hv.1 hv.2
  have h1 := hv.1
  have h2 := hv.2
  generalize hu : zigzag v = u at hz ⊢
  have h10 := uvarint_length64 hz
  by_cases hneg : v < 0
  all_goals
    have hzz : (v < 0 → -(v + 1) * 2 + 1 = (u : Int)) ∧ (¬ v < 0 → v * 2 = (u : Int)) := by
      rw [← hu]
      unfold zigzag
      refine ⟨fun h => ?_, fun h => ?_⟩
      · rw [if_neg (by omega)]; omega
      · rw [if_pos (by omega)]; omega
    have HZ := Lib.hid hzz
    clear hu hzz hv
    go_enter Tryz.func132, Tryz.ntmps132
    go_wp2
    first | rw [HZ.out.1 hneg] | rw [HZ.out.2 (by omega)]
    go_loopw [3, 4] (fun x b wr => ∃ (y : Nat) (m : List UInt8), x = .int .u64 y ∧ y < 18446744073709551616 ∧ Row wr w.heap.size b m ∧ m ++ uvarint y = uvarint u ∧ m.length ≤ 10 ∧ Below w.heap.size w wr) (fun x _ _ => (intOf x).toNat)
    case atStart => exact ⟨u, [], rfl, hz, Row.nil_ _ _, rfl, by simp, Below.refl _ _⟩
    case round =>
      obtain ⟨y, m, rfl, hy, hr, hm, hml, hbl⟩ := hrel
      have HM := Lib.hid hm
      have hbs := hbl.size
      by_cases hge : 128 ≤ y
      · have hml2 : (m ++ [(y % 128 + 128).toUInt8]).length ≤ 10 := by
          have h3 := congrArg List.length hm
          rw [uvarint_big hge] at h3
          simp at h3 ⊢
          omega
        have hmm := uv_more (l := []) (u := u) hm hge
        have HMM := Lib.hid hmm
        have hml3 : m.length ≤ 70368744177664 := by omega
        clear hm hmm hml
        go_wp2_with (at_builtin; refine append_byte rfl _ _ rfl w.heap.size wr u4 m rfl hr _ (y % 128 + 128) rfl (by omega) (by omega) hml3 (by omega) ?_; intro b' w1 hr1 hb1)
        go_roundw
        case rel => exact ⟨y / 128, m ++ [(y % 128 + 128).toUInt8], by go_num, by omega, hr1, HMM.out, hml2, hbl.trans hb1⟩
        case measure => simp [intOf]; omega
      · have hml3 : m.length ≤ 70368744177664 := by omega
        clear hm hml
        go_wp2_with (at_builtin; refine append_byte rfl _ _ rfl w.heap.size wr u4 m rfl hr _ y rfl (by omega) (by omega) hml3 (by omega) ?_; intro b' w1 hr1 hb1; rw [uv_last (l := []) HM.out hge] at hr1; have hs1 := row_string hr1)
        go_ret
        exact ⟨rfl, hbl.trans hb1⟩

theorem text_eq (s : ByteArray) : ((⟨(uvarint (zigzag (s.size : Int))).toArray⟩ : ByteArray) ++ s) = ⟨(textB s).toArray⟩ := by
  apply ByteArray.ext
  apply Array.ext'
  simp [textB]

set_option maxRecDepth 1000000 in
set_option maxHeartbeats 400000 in
theorem refText_any (s : ByteArray) (w : World) (hs : s.size ≤ 4611686018427387904) :
    Calls Tryz.prog 130 #[.string s] w fun e w' => e = .returned (.string ⟨(textB s).toArray⟩) ∧ Below w.heap.size w w' := by
  have hi : IsInt (s.size : Int) := ⟨by omega, by omega⟩
  have h10 := uvarint_length64 (zigzag_lt hi.1 hi.2)
  have hsum : ¬ 9223372036854775807 < (uvarint (zigzag (s.size : Int))).length + s.size := by omega
  have HE := Lib.hid (text_eq s)
  go_enter Tryz.func130, Tryz.ntmps130
  go_wp2_with (go_at_call 132; refine (refVar_any _ _ hi).mono ?_; rintro e w1 ⟨rfl, hb1⟩)
  rw [HE.out]
  go_ret
  exact ⟨rfl, hb1⟩

set_option maxRecDepth 1000000 in
set_option maxHeartbeats 400000 in
theorem refVars_any (v : Value) (l : List Int) (w : World) (hr : Reads1 w w.heap.size v (l.map (Value.int .i64))) (hl : l.length ≤ 1099511627776) (hi : ∀ x ∈ l, IsInt x) :
    Calls Tryz.prog 173 #[v] w fun e w' => e = .returned (.string ⟨(varsB l).toArray⟩) ∧ Below w.heap.size w w' := by
  obtain ⟨A, c, rfl, hc⟩ := hr
  simp only [List.length_map] at hc ⊢
  go_enter Tryz.func173, Tryz.ntmps173
  go_wp2
  go_loopw [3, 4] (fun b i wr => ∃ k : Nat, k ≤ l.length ∧ i = .int .i64 k ∧ Row wr w.heap.size b (varsB (l.take k)) ∧ Below w.heap.size w wr) (fun _ i _ => l.length - (intOf i).toNat)
  case atStart => exact ⟨0, Nat.zero_le _, rfl, Row.nil_ _ _, Below.refl _ _⟩
  case round =>
    obtain ⟨k, hk, rfl, hrow, hbl⟩ := hrel
    have hbs := hbl.size
    by_cases hlt : k < l.length
    · obtain ⟨b, off, rfl, hbb, hcell⟩ := hc (by omega)
      have hck : wr.cell? ⟨b, off + k, none⟩ = some (.int .i64 l[k]) := (hbl.cell (p := ⟨b, off + k, none⟩) hbb).trans (hcell k _ (by simp [hlt]))
      have hik := hi l[k] (by simp)
      have hts := take_snoc1 l k hlt
      have hvl : (varsB (l.take k)).length ≤ 35184372088832 := by
        have := varsB_len (l.take k) (fun v hv => hi v (List.mem_of_mem_take hv))
        simp at this
        omega
      have HS : Hid (varsB (l.take (k + 1)) = varsB (l.take k) ++ uvarint (zigzag l[k])) := by show _ = _; rw [hts, varsB_snoc]
      generalize l[k] = x at *
      have h10 := uvarint_length64 (zigzag_lt hik.1 hik.2)
      have hsz : (⟨(uvarint (zigzag x)).toArray⟩ : ByteArray).size ≤ 10 := by
        show (uvarint (zigzag x)).toArray.size ≤ 10
        simpa using h10
      have hd : (⟨(uvarint (zigzag x)).toArray⟩ : ByteArray).data.toList = uvarint (zigzag x) := by simp
      generalize hg : (⟨(uvarint (zigzag x)).toArray⟩ : ByteArray) = g at hsz hd
      have HG := Lib.hid hg
      have HD := Lib.hid hd
      have hrv := fun w => refVar_any x w hik
      rw [hg] at hrv
      have HRV := Lib.hid hrv
      clear hts hi hc hcell hg hd hrv
      go_wp2_with (first | (go_at_call 132; refine (HRV.out _).mono ?_; rintro e w1 ⟨rfl, hb1⟩; have hrow1 : Row w1 w.heap.size _ _ := hrow.kept (grownBy_of_below (row := none) hb1) (by cases Value.ownBlock u3 <;> simp); have hb1' := hb1.mono hbs; have hs1 := hb1.size) | (at_builtin; refine append_str rfl _ _ rfl w.heap.size _ u3 _ rfl hrow1 g rfl hvl (by omega) (by omega) ?_; intro b2 w2 hrow2 hb2))
      rw [HD.out, ← HS.out] at hrow2
      go_roundw
      case rel => exact ⟨k + 1, by omega, by go_num, hrow2, (hbl.trans hb1').trans hb2⟩
      case measure => simp [intOf]; omega
    · have hkl : k = l.length := by omega
      have hs := row_string hrow
      go_wp2
      go_ret
      exact ⟨rfl, hbl⟩
end Go.Proofs.YtpfifmjcmpankaaGreat
