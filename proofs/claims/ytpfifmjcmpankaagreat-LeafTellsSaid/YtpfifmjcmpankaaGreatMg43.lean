/-
  Walks over the document's Reader: Bool; Count and Text behind an error.
-/
import Derived.Test.YtpfifmjcmpankaaGreatMg42
import Derived.Test.YtpfifmjcmpankaaGreatMg20
namespace Go.Proofs.YtpfifmjcmpankaaGreat
open Go.RowKit Go.Lib

set_option maxRecDepth 100000 in
set_option maxHeartbeats 1000000 in
theorem rrcount_err (b : Nat) (l : List UInt8) (n most : Int) (w : World) (h : RRd w b l n) (hn : n ≠ 0) :
    Calls Tryz.prog 134 #[.pointer (some ⟨b, 0, none⟩), .int .i64 most] w (RRdPost w b (.int .i64 0) l n) := by
  have hr := rrvar_err b l n w h hn
  unfold RRdPost at hr
  have hb2 : (n != 0) = true := by simpa using hn
  go_enter Tryz.func134, Tryz.ntmps134
  go_wp2_with fail
  refine hr.mono ?_
  rintro e w1 ⟨rfl, hr1, hk1⟩
  obtain ⟨s, _, _, _, c0, c1, f0, f1⟩ := hr1.cells
  have H := Lib.hid (And.intro hr1 hk1)
  clear hr hr1 hk1
  go_wp2_with fail
  go_ret
  exact ⟨rfl, H.out⟩
set_option maxRecDepth 100000 in
set_option maxHeartbeats 1000000 in
theorem rrtext_err (b : Nat) (l : List UInt8) (n most : Int) (w : World) (h : RRd w b l n) (hn : n ≠ 0) :
    Calls Tryz.prog 63 #[.pointer (some ⟨b, 0, none⟩), .int .i64 most] w (RRdPost w b (.string ⟨#[]⟩) l n) := by
  have hr := rrcount_err b l n most w h hn
  unfold RRdPost at hr
  have hb2 : (n != 0) = true := by simpa using hn
  go_enter Tryz.func63, Tryz.ntmps63
  go_wp2_with fail
  refine hr.mono ?_
  rintro e w1 ⟨rfl, hr1, hk1⟩
  obtain ⟨s, _, _, _, c0, c1, f0, f1⟩ := hr1.cells
  have H := Lib.hid (And.intro hr1 hk1)
  clear hr hr1 hk1
  go_wp2_with fail
  go_ret
  exact ⟨rfl, H.out⟩
/-- Text, whatever the error is. -/
def rtextE (most : Int) (l : List UInt8) (n : Int) : List UInt8 × List UInt8 × Int := if n ≠ 0 then ([], l, n) else rtext most l
theorem rrtext_all (b : Nat) (l : List UInt8) (n most : Int) (w : World) (h : RRd w b l n) :
    Calls Tryz.prog 63 #[.pointer (some ⟨b, 0, none⟩), .int .i64 most] w (RRdPost w b (.string ⟨(rtextE most l n).1.toArray⟩) (rtextE most l n).2.1 (rtextE most l n).2.2) := by
  unfold rtextE
  by_cases hn : n = 0
  · subst hn
    rw [if_neg (by simp)]
    exact rrtext_any b l most w h
  · rw [if_pos hn]
    exact rrtext_err b l n most w h hn

def rboolE (l : List UInt8) (n : Int) : Bool × List UInt8 × Int := if n ≠ 0 then (false, l, n) else rbool l
set_option maxRecDepth 100000 in
set_option maxHeartbeats 1000000 in
theorem rrbool_all (b : Nat) (l : List UInt8) (n : Int) (w : World) (h : RRd w b l n) :
    Calls Tryz.prog 64 #[.pointer (some ⟨b, 0, none⟩)] w (RRdPost w b (.bool (rboolE l n).1) (rboolE l n).2.1 (rboolE l n).2.2) := by
  obtain ⟨s, hsd, hsz, hs63, c0, c1, f0, f1⟩ := h.cells
  unfold rboolE
  by_cases hn : n = 0
  · subst hn
    rw [if_neg (by simp)]
    cases l with
    | nil =>
      have hs0 : s.size = 0 := by rw [hsz]; rfl
      have hs1 : ((s.size : Int) == 0) = true := by rw [beq_iff_eq]; omega
      have H := Lib.hid h
      clear h hsd
      go_enter Tryz.func64, Tryz.ntmps64
      go_wp2_with (go_at_call 135; refine (rrfail_any _ _ _ c1 f1).mono ?_; rintro e w' ⟨rfl, rfl⟩)
      go_ret
      exact ⟨rfl, H.out.setErr 5⟩
    | cons c r =>
      have hsz0 : 0 < s.size := by rw [hsz]; simp
      have hs1 : ((s.size : Int) == 0) = false := by rw [beq_eq_false_iff_ne]; omega
      have hs2 : (0 : Int) < s.size := by omega
      have hc : s[0] = c := by
        have e : s.data.toList[0]? = some c := by rw [hsd]; rfl
        have e' : s.data[0]'(by simpa using hsz0) = c := by simpa [hsz0] using e
        exact e'
      have Hl := Lib.hid (And.intro h (And.intro hsd hsz))
      clear h hsd
      by_cases h1 : 1 < c.toNat
      · have hz : rbool (c :: r) = (false, c :: r, 4) := by show (if 1 < c.toNat then _ else _) = _; rw [if_pos h1]
        rw [hz]
        clear hz
        have h1I : (1 : Int) < c.toNat := by omega
        go_enter Tryz.func64, Tryz.ntmps64
        go_wp2_with (go_at_call 135; refine (rrfail_any _ _ _ c1 f1).mono ?_; rintro e w' ⟨rfl, rfl⟩)
        go_ret
        exact ⟨rfl, Hl.out.1.setErr 4⟩
      · have hz : rbool (c :: r) = (decide (c.toNat = 1), r, 0) := by show (if 1 < c.toNat then _ else _) = _; rw [if_neg h1]
        rw [hz]
        clear hz
        have h1I : ¬ (1 : Int) < c.toNat := by omega
        have hsr := Hl.out.1.setRest (s.extract 1 s.size) (by rw [ByteArray.size_extract]; omega)
        have e1 : (s.extract 1 s.size).data.toList = r := by
          have h2 := Hl.out.2.1
          have h3 := Hl.out.2.2
          simp only [List.length_cons] at h3
          simp [h2]
          exact List.take_of_length_le (by omega)
        rw [e1] at hsr
        have HS := Lib.hid hsr
        have h1B : ((c.toNat : Int) == 1) = decide (c.toNat = 1) := by
          by_cases h9 : c.toNat = 1
          · simp [h9]
          · rw [decide_eq_false h9, beq_eq_false_iff_ne]; omega
        have HB1 := Lib.hid h1B
        clear hsr e1 hsz h1B
        go_enter Tryz.func64, Tryz.ntmps64
        go_wp2_with fail
        go_ret
        exact ⟨by rw [← HB1.out]; rfl, HS.out⟩
  · rw [if_pos hn]
    have hb2 : (n != 0) = true := by simpa using hn
    have H := Lib.hid h
    clear h hsd hsz
    go_enter Tryz.func64, Tryz.ntmps64
    go_wp2_with fail
    go_ret
    exact ⟨rfl, H.out, Kept.refl _ _⟩
end Go.Proofs.YtpfifmjcmpankaaGreat
