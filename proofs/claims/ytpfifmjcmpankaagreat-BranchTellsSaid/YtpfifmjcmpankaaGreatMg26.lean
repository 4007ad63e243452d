/-
  Walks over package branch: Find.
-/
import Derived.Test.YtpfifmjcmpankaaGreatMg16
import Derived.Test.YtpfifmjcmpankaaGreatMg17
import Derived.Test.YtpfifmjcmpankaaGreatShelf
namespace Go.Proofs.YtpfifmjcmpankaaGreat.BR
open Go.RowKit Go.Lib

set_option maxRecDepth 100000 in
set_option maxHeartbeats 400000 in
theorem find1_any (x : Chd) (k : ByteArray) (w : World) : Calls Tryz.prog 126 #[iagg x, .string k] w fun e w' => e = .returned (.int .i64 (if ltK k x.key = true then 1 else -1)) ∧ Below w.heap.size w w' := by
  cases hlk : ltK k x.key
  · by_cases hxk : x.key = k
    · subst hxk
      unfold ltK at hlk
      go_enter Tryz.func126, Tryz.ntmps126
      go_wp2_with fail
      go_ret
      exact ⟨rfl, (Below.refl _ _).alloc (Nat.le_refl _) _⟩
    · have hlt : ltK x.key k = true := by
        cases h : ltK x.key k
        · exact absurd (ltK_tri h hlk) hxk
        · rfl
      unfold ltK at hlt
      clear hlk hxk
      go_enter Tryz.func126, Tryz.ntmps126
      go_wp2_with fail
      go_ret
      exact ⟨rfl, (Below.refl _ _).alloc (Nat.le_refl _) _⟩
  · have h1 := ltK_asymm hlk
    have h2 : (x.key.toList == k.toList) = false := by
      rw [beq_eq_false_iff_ne]
      intro h
      exact ltK_ne hlk (toList_inj h).symm
    unfold ltK at h1
    clear hlk
    go_enter Tryz.func126, Tryz.ntmps126
    go_wp2_with fail
    go_ret
    exact ⟨rfl, (Below.refl _ _).alloc (Nat.le_refl _) _⟩

/-- What the search by halves comes to. -/
def BsfTo (l : List Chd) (k : ByteArray) (w : World) (e : Ending) (w' : World) : Prop := ∃ (i : Nat) (T : Bool), e = .returned (.tuple #[.int .i64 i, .bool T]) ∧ (i = fnd l k + 1 ∨ (i = 0 ∧ fnd l k = 0)) ∧ Below w.heap.size w w'
set_option maxRecDepth 100000 in
set_option maxHeartbeats 1000000 in
theorem bsf_any (v : Value) (l : List Chd) (k : ByteArray) (w : World) (hr : ReadsIt w w.heap.size v l) (hrise : Rise (l.drop 1)) (hl : l.length ≤ 35184372088832) :
    Calls Tryz.prog 125 #[v, .string k, .func (.func 126) #[] #[]] w (BsfTo l k w) := by
  obtain ⟨A, c, rfl, hlc, hcm, _, hc⟩ := hr
  have hcm' : c ≤ 9223372036854775807 := by unfold maxLen at hcm; omega
  have hfl := fnd_le l k
  clear hcm
  go_enter Tryz.func125, Tryz.ntmps125
  go_wp2
  go_loopw [9, 10] (fun iv jv wr => ∃ i j : Nat, iv = .int .i64 i ∧ jv = .int .i64 j ∧ i ≤ fnd l k + 1 ∧ (fnd l k + 1 ≤ j ∨ (fnd l k = 0 ∧ i = 0 ∧ j = 0)) ∧ j ≤ l.length ∧ Below w.heap.size w wr) (fun iv jv _ => (RowKit.intOf jv).toNat - (RowKit.intOf iv).toNat)
  case atStart => exact ⟨0, l.length, rfl, rfl, by omega, by omega, Nat.le_refl _, Below.refl _ _⟩
  case round =>
    obtain ⟨i, j, rfl, rfl, hi, hj, hjl, hbl⟩ := hrel
    have hbs := hbl.size
    by_cases hlt : i < j
    · obtain ⟨b, off, rfl, hbb, hcell⟩ := hc (by omega)
      have hm : (i + j) / 2 < l.length := by omega
      obtain ⟨c0, c1⟩ := (hcell.below hbl hbb) ((i + j) / 2) hm
      have hsum : (i : Int) + j ≤ 70368744177664 := by omega
      have hmi : i ≤ (i + j) / 2 := by omega
      have hmj : (i + j) / 2 < j := by omega
      have hF := fun w => find1_any l[(i + j) / 2] k w
      have hbel : 1 ≤ (i + j) / 2 → (i + j) / 2 ≤ fnd l k → ltK k l[(i + j) / 2].key = false := fun h1 h2 => fnd_below h1 h2 hm
      have habv : fnd l k < (i + j) / 2 → ltK k l[(i + j) / 2].key = true := fun h => fnd_above hrise h hm
      have HF := Lib.hid hF
      have HK := Lib.hid (And.intro hcell (And.intro hbel habv))
      clear hF hcell hbel habv hc
      cases hlk : ltK k l[(i + j) / 2].key
      · have hle : (i + j) / 2 ≤ fnd l k := by
          rcases Nat.lt_or_ge (fnd l k) ((i + j) / 2) with h | h
          · have := HK.out.2.2 h; rw [hlk] at this; cases this
          · exact h
        rw [hlk] at HF
        have HLE : Hid ((i + j) / 2 + 1 ≤ fnd l k + 1 ∧ (fnd l k + 1 ≤ j ∨ (fnd l k = 0 ∧ (i + j) / 2 + 1 = 0 ∧ j = 0))) := Lib.hid ⟨by omega, by omega⟩
        have HLK := Lib.hid hlk
        clear hlk hle hi hj
        generalize hxx : l[(i + j) / 2] = x at *
        have HX := Lib.hid hxx
        clear hxx
        go_wp2_with fail
        refine (HF.out _).mono ?_
        rintro e w1 ⟨rfl, hb1⟩
        go_wp2_with fail
        have em : ((i : Int) + j) / 2 + 1 = (((i + j) / 2 + 1 : Nat) : Int) := by omega
        rw [em]
        go_roundw
        case rel => exact ⟨(i + j) / 2 + 1, j, rfl, rfl, HLE.out.1, HLE.out.2, hjl, hbl.trans (hb1.mono hbs)⟩
        case measure => simp [RowKit.intOf]; omega
      · have hle : fnd l k < (i + j) / 2 ∨ ((i + j) / 2 = 0 ∧ fnd l k = 0) := by
          rcases Nat.lt_or_ge (fnd l k) ((i + j) / 2) with h | h
          · exact .inl h
          · rcases Nat.eq_zero_or_pos ((i + j) / 2) with h0 | h0
            · exact .inr ⟨h0, by omega⟩
            · have := HK.out.2.1 h0 h; rw [hlk] at this; cases this
        rw [hlk] at HF
        have HLK := Lib.hid hlk
        clear hlk
        generalize hxx : l[(i + j) / 2] = x at *
        have HX := Lib.hid hxx
        have HLE : Hid (i ≤ fnd l k + 1 ∧ (fnd l k + 1 ≤ (i + j) / 2 ∨ (fnd l k = 0 ∧ i = 0 ∧ (i + j) / 2 = 0))) := Lib.hid ⟨hi, by omega⟩
        clear hxx hle hi hj
        go_wp2_with fail
        refine (HF.out _).mono ?_
        rintro e w1 ⟨rfl, hb1⟩
        go_wp2_with fail
        have em : ((i : Int) + j) / 2 = (((i + j) / 2 : Nat) : Int) := by omega
        rw [em]
        go_roundw
        case rel => exact ⟨i, (i + j) / 2, rfl, rfl, HLE.out.1, HLE.out.2, by omega, hbl.trans (hb1.mono hbs)⟩
        case measure => simp [RowKit.intOf]; omega
    · have HE : Hid (i = fnd l k + 1 ∨ (i = 0 ∧ fnd l k = 0)) := Lib.hid (by omega)
      have hi0 : (0 : Int) ≤ i := by omega
      have hiI : (i : Int) ≤ 35184372088832 := by omega
      by_cases hin : i < l.length
      · obtain ⟨b, off, rfl, hbb, hcell⟩ := hc (by omega)
        obtain ⟨c0, c1⟩ := (hcell.below hbl hbb) i hin
        have hF := fun w => find1_any l[i] k w
        have HF := Lib.hid hF
        have HCL := Lib.hid hcell
        clear hF hcell hi hj hc
        generalize l[i] = x at *
        go_wp2_with fail
        refine (HF.out _).mono ?_
        rintro e w1 ⟨rfl, hw1⟩
        go_wp2_with fail
        all_goals
          go_ret2
          exact ⟨i, _, rfl, HE.out, hbl.trans (hw1.mono hbs)⟩
      · have hni : decide (i < l.length) = false := decide_eq_false hin
        clear hi hj hc
        go_wp2_with fail
        go_ret2
        exact ⟨i, _, rfl, HE.out, hbl⟩

set_option maxRecDepth 100000 in
set_option maxHeartbeats 400000 in
theorem find_any (v : Value) (l : List Chd) (k : ByteArray) (w : World) (hr : ReadsIt w w.heap.size v l) (hrise : Rise (l.drop 1)) (hl : l.length ≤ 35184372088832) :
    Calls Tryz.prog 45 #[v, .string k] w fun e w' => e = .returned (.int .i64 (fnd l k : Nat)) ∧ Below w.heap.size w w' := by
  have hb := bsf_any v l k w hr hrise hl
  unfold BsfTo at hb
  obtain ⟨A, c, rfl⟩ := hr.form
  have hfl := fnd_le l k
  generalize fnd l k = n at *
  clear hr
  go_enter Tryz.func45, Tryz.ntmps45
  go_wp2_with fail
  refine hb.mono ?_
  rintro e w1 ⟨i, T, rfl, hi, hb1⟩
  rcases hi with rfl | ⟨rfl, rfl⟩
  · have hn1 : (n : Int) ≤ 35184372088832 := by omega
    go_wp2_with fail
    go_ret
    exact ⟨ret_i64 (by omega), hb1⟩
  · go_wp2_with fail
    go_ret
    exact ⟨rfl, hb1⟩
end Go.Proofs.YtpfifmjcmpankaaGreat.BR
