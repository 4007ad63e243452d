/-
  Walks over the statements' own: are two lists of items alike? are items small? do they rise? which text is less?
-/
import Derived.Test.YtpfifmjcmpankaaGreatMg4
import Derived.Test.YtpfifmjcmpankaaGreatMg2
import Derived.Test.YtpfifmjcmpankaaGreatMg16
import Derived.Deep.RegionHeld3
namespace Go.Proofs.YtpfifmjcmpankaaGreat
open Go.RowKit Go.Lib

theorem below_drewI {B : Nat} {w wr : World} (h : Below B w wr) (k : Nat) : Below B w (wr.drewN k) := h.trans ⟨rfl, rfl, rfl, Nat.le_refl _, fun _ _ => rfl⟩

set_option maxRecDepth 1000000 in
set_option maxHeartbeats 800000 in
theorem sameItems_any (v1 v2 : Value) (l : List Itm) (w : World) (hr1 : ReadsIt w w.heap.size v1 l) (hr2 : ReadsIt w w.heap.size v2 l) (hl : l.length ≤ 1000000) :
    Calls Tryz.prog 12 #[v1, v2] w fun e w' => e = .returned (.bool true) ∧ Below w.heap.size w w' := by
  obtain ⟨A1, c1, rfl, _, _, _, hc1⟩ := hr1
  obtain ⟨A2, c2, rfl, _, _, _, hc2⟩ := hr2
  go_enter Tryz.func12, Tryz.ntmps12
  go_wp2
  go_loopw [5] (fun i wr => ∃ k : Nat, k ≤ l.length ∧ i = .int .i64 k ∧ Below w.heap.size w wr) (fun i _ => l.length - (RowKit.intOf i).toNat)
  case atStart => exact ⟨0, Nat.zero_le _, rfl, Below.refl _ _⟩
  case round =>
    obtain ⟨k, hk, rfl, hbl⟩ := hrel
    have hbs := hbl.size
    by_cases hlt : k < l.length
    · obtain ⟨b1, o1, rfl, hbb1, hcell1⟩ := hc1 (by omega)
      obtain ⟨b2, o2, rfl, hbb2, hcell2⟩ := hc2 (by omega)
      obtain ⟨c0, c1', c2', c3⟩ := (hcell1.below hbl hbb1) k hlt
      obtain ⟨d0, d1, d2, d3⟩ := (hcell2.below hbl hbb2) k hlt
      generalize l[k] = x at *
      clear hc1 hc2 hcell1 hcell2
      have hlt' : (k : Int) < (l.length : Int) := by omega
      go_wp2_with fail
      go_quiet (fail)
      go_wp2
      exact ⟨⟨k + 1, by omega, by go_num, below_drewI hbl nq⟩, by simp [RowKit.intOf]; omega⟩
    · go_wp2
      go_ret
      exact ⟨rfl, hbl⟩

theorem drop_cons8 (s : ByteArray) (k : Nat) (h : k < s.size) : s.data.toList.drop k = s[k] :: s.data.toList.drop (k + 1) := by
  have h' : k < s.data.toList.length := by simpa using h
  rw [List.drop_eq_getElem_cons h']
  rfl
set_option maxRecDepth 100000 in
set_option maxHeartbeats 800000 in
theorem less_any (a b : ByteArray) (w : World) (ha : a.size ≤ 9223372036854775807) (hb : b.size ≤ 9223372036854775807) : Calls Tryz.prog 57 #[.string a, .string b] w fun e w' => e = .returned (.bool (ltK a b)) ∧ Below w.heap.size w w' := by
  have hab : ltK a b = Op.bytesLess a.data.toList b.data.toList := by unfold ltK; rw [Lib.toList_data, Lib.toList_data]
  rw [hab]
  obtain ⟨T, hT⟩ : ∃ T, Op.bytesLess a.data.toList b.data.toList = T := ⟨_, rfl⟩
  rw [hT]
  have HT := Lib.hid hT
  have hda : a.data.toList.length = a.size := by simp
  have hdb : b.data.toList.length = b.size := by simp
  have HD := Lib.hid (And.intro hda hdb)
  clear hab hT hda hdb
  go_enter Tryz.func57, Tryz.ntmps57
  go_wp2
  go_loopw [5] (fun i wr => ∃ k : Nat, k ≤ a.size ∧ k ≤ b.size ∧ i = .int .i64 k ∧ T = Op.bytesLess (a.data.toList.drop k) (b.data.toList.drop k) ∧ Below w.heap.size w wr) (fun i _ => a.size - (RowKit.intOf i).toNat)
  case atStart => exact ⟨0, Nat.zero_le _, Nat.zero_le _, rfl, HT.out.symm, Below.refl _ _⟩
  case round =>
    obtain ⟨k, hka, hkb, rfl, hk, hbl⟩ := hrel
    have HK := Lib.hid (And.intro hk hbl)
    clear hk hbl
    by_cases h1 : k < a.size
    · by_cases h2 : k < b.size
      · have ea := drop_cons8 a k h1
        have eb := drop_cons8 b k h2
        have HE := Lib.hid (And.intro ea eb)
        clear ea eb
        by_cases hne : a[k] = b[k]
        · have hnn : (a[k].toNat : Int) = (b[k].toNat : Int) := by rw [hne]
          have HNE := Lib.hid hne
          clear hne
          go_wp2_with fail
          go_quiet (fail)
          go_wp2_with fail
          go_roundw
          case rel => exact ⟨k + 1, by omega, by omega, by go_num, by
            have := HK.out.1
            rw [HE.out.1, HE.out.2, HNE.out] at this
            rw [this]
            simp [Op.bytesLess, UInt8.lt_irrefl], below_drewI HK.out.2 nq⟩
          case measure => simp [RowKit.intOf]; omega
        · have hnn : ¬ ((a[k].toNat : Int) = (b[k].toNat : Int)) := by
            intro h
            exact hne (UInt8.toNat_inj.1 (by omega))
          have HNE := Lib.hid hne
          clear hne
          go_wp2_with fail
          go_quiet (fail)
          go_wp2_with fail
          go_quiet (fail)
          go_wp2_with fail
          go_ret
          refine ⟨ret_bool ?_, below_drewI (below_drewI HK.out.2 _) _⟩
          have := HK.out.1
          rw [HE.out.1, HE.out.2] at this
          rw [this]
          simp [Op.bytesLess, HNE.out, UInt8.lt_iff_toNat_lt]
      · have hd := HD.out
        go_wp2_with fail
        go_ret
        refine ⟨ret_bool ?_, HK.out.2⟩
        have := HK.out.1
        rw [List.drop_eq_nil_of_le (show b.data.toList.length ≤ k by omega)] at this
        rw [this]
        have h3 : ¬ a.size < b.size := by omega
        cases a.data.toList.drop k <;> simp [Op.bytesLess, h3]
    · have hd := HD.out
      go_wp2_with fail
      go_ret
      refine ⟨ret_bool ?_, HK.out.2⟩
      have := HK.out.1
      rw [List.drop_eq_nil_of_le (show a.data.toList.length ≤ k by omega)] at this
      rw [this]
      by_cases h3 : k < b.size
      · rw [drop_cons8 b k h3]
        have h4 : a.size < b.size := by omega
        simp [Op.bytesLess, h4]
      · rw [List.drop_eq_nil_of_le (show b.data.toList.length ≤ k by omega)]
        have h4 : ¬ a.size < b.size := by omega
        simp [Op.bytesLess, h4]

instance (l : List Itm) : Decidable (Rise l) := by unfold Rise; exact inferInstance
theorem rise_take {l : List Itm} {k : Nat} (hk : k < l.length) (h : Rise (l.take k)) (h1 : ∀ h : 0 < k, ltK (l[k - 1]'(by omega)).key l[k].key = true) : Rise (l.take (k + 1)) := by
  refine rise_next fun i hi => ?_
  simp only [List.length_take] at hi
  rw [List.getElem_take, List.getElem_take]
  by_cases e : i + 1 = k
  · subst e
    exact h1 (by omega)
  · have := h.at (i := i) (j := i + 1) (by omega) (by simp; omega)
    rwa [List.getElem_take, List.getElem_take] at this

set_option maxRecDepth 100000 in
set_option maxHeartbeats 800000 in
theorem rises_any (v : Value) (l : List Itm) (w : World) (hr : ReadsIt w w.heap.size v l) (hok : ∀ x ∈ l, x.key.size ≤ 9223372036854775807) :
    Calls Tryz.prog 18 #[v] w fun e w' => e = .returned (.bool (decide (Rise l))) ∧ Below w.heap.size w w' := by
  obtain ⟨A, c, rfl, hlc, hcm, _, hc⟩ := hr
  have hl63 : l.length ≤ 9223372036854775807 := by unfold maxLen at hcm; omega
  obtain ⟨T, hT⟩ : ∃ T, decide (Rise l) = T := ⟨_, rfl⟩
  rw [hT]
  have HT := Lib.hid hT
  clear hT hlc hcm
  go_enter Tryz.func18, Tryz.ntmps18
  go_wp2
  go_loopw [3] (fun i wr => ∃ k : Nat, (k ≤ l.length ∨ k = 1) ∧ 1 ≤ k ∧ i = .int .i64 k ∧ Rise (l.take k) ∧ Below w.heap.size w wr) (fun i _ => l.length - (RowKit.intOf i).toNat)
  case atStart => exact ⟨1, .inr rfl, Nat.le_refl _, rfl, rise_next (fun i hi => by simp only [List.length_take] at hi; omega), Below.refl _ _⟩
  case round =>
    obtain ⟨k, hk, hk1, rfl, hri, hbl⟩ := hrel
    have hbs := hbl.size
    by_cases hlt : k < l.length
    · obtain ⟨b, off, rfl, hbb, hcell⟩ := hc (by omega)
      obtain ⟨j, rfl⟩ : ∃ j, k = j + 1 := ⟨k - 1, by omega⟩
      obtain ⟨c0, _, _, _⟩ := (hcell.below hbl hbb) (j + 1) hlt
      obtain ⟨d0, _, _, _⟩ := (hcell.below hbl hbb) j (by omega)
      have hle := less_any l[j].key l[j + 1].key
      have ha := hok l[j] (by simp)
      have hb := hok l[j + 1] (by simp)
      have hnx := fun h => rise_take hlt hri h
      have hwj : IntKind.i64.wrap (j : Int) = (j : Int) := by rw [IntKind.wrap_i64]; omega
      have hj0 : (0 : Int) ≤ j := by omega
      have hjl : (j : Int) + 1 < l.length := by omega
      have hjl2 : (j : Int) < l.length := by omega
      have hjl3 : j < l.length := by omega
      have hj1 : (0 : Int) ≤ (j : Int) + 1 := by omega
      have hjn : ((j : Int) + 1).toNat = j + 1 := by omega
      have HL := Lib.hid (fun w => hle w ha hb)
      have e0 := cell_gw c0
      have e1 := cell_gw d0
      cases hlk : ltK l[j].key l[j + 1].key
      · have HTF := Lib.hid (HT.out.symm.trans (decide_eq_false fun h2 => by have h3 := h2.at (i := j) (j := j + 1) (by omega) hlt; rw [hlk] at h3; cases h3))
        rw [hlk] at HL
        generalize l[j].key = x at *
        generalize l[j + 1].key = y at *
        have HH := Lib.hid (And.intro hri (And.intro hnx hbl))
        clear hle hnx hri hbl hc hcell ha hb hlk
        go_wp2_with fail
        refine wp_region_gw (by kernel_rfl) (by kernel_rfl) ?_
        repeat (refine wq_step (fun K hK => ?_); go_simp; first | (refine hK _ ?_; clear hK K) | (apply Exists.intro; refine ⟨fun _ => ?_, hK _ ?_⟩; (go_at_call 57; ((with_reducible exact Calls.gw_of (HL.out _)))); clear hK K))
        refine wq_nil ?_
        intro w1 hw1
        replace hw1 := gw_to hw1
        clear e0 e1 c0 d0
        go_wp2
        go_ret
        exact ⟨ret_bool HTF.out.symm, HH.out.2.2.trans (hw1.mono hbs)⟩
      · have hok1 := hnx (fun _ => hlk)
        rw [hlk] at HL
        generalize l[j].key = x at *
        generalize l[j + 1].key = y at *
        have HH := Lib.hid (And.intro hok1 hbl)
        clear hle hnx hri hbl hc hcell ha hb hlk hok1
        go_wp2_with fail
        refine wp_region_gw (by kernel_rfl) (by kernel_rfl) ?_
        repeat (refine wq_step (fun K hK => ?_); go_simp; first | (refine hK _ ?_; clear hK K) | (apply Exists.intro; refine ⟨fun _ => ?_, hK _ ?_⟩; (go_at_call 57; ((with_reducible exact Calls.gw_of (HL.out _)))); clear hK K))
        refine wq_nil ?_
        intro w1 hw1
        replace hw1 := gw_to hw1
        clear e0 e1 c0 d0
        go_wp2
        go_roundw
        case rel => exact ⟨j + 1 + 1, by omega, by omega, by go_num, HH.out.1, HH.out.2.trans (hw1.mono hbs)⟩
        case measure => simp [RowKit.intOf]; omega
    · have hall : Rise l := by
        rcases hk with h | h
        · obtain rfl : k = l.length := by omega
          rwa [List.take_length] at hri
        · subst h
          exact rise_next (fun i hi => by omega)
      have HTF := Lib.hid (HT.out.symm.trans (decide_eq_true hall))
      clear hk hri hall
      go_wp2
      go_ret
      exact ⟨ret_bool HTF.out.symm, hbl⟩
end Go.Proofs.YtpfifmjcmpankaaGreat
