/-
  DevFuses: of a device with a fuse of n operations the power fails at just the write behind the n-th one; that write is there, unsynced; a Sync then answers no power: for every int. Conditions: none but those of the given statement.
-/
import Derived.Test.YtlmhhoijbebcbaaE1
import Derived.Test.YtlmhhoijbebcbaaFrameS
namespace Go.Proofs.Ytlmhhoijbebcbaa.devFuses
open Go.ChangeShapes Go.WideShapes Go.ChangeAt Go.RowKit Go.Lib

set_option maxRecDepth 1000000 in
set_option maxHeartbeats 800000 in
theorem walk_out (w : World) (n : Int) (h : n < 0 ∨ 30 < n) : Calls Try.prog 5 #[.int .i64 n] w fun e w' => e = .returned (.bool true) ∧ Below w.heap.size w w' := by
  by_cases h0 : n < 0
  · have hb : decide (n < 0) = true := by simpa using h0
    go_enter Try.func5, Try.ntmps5
    go_wp2_with (go_at_call 13; refine (alive_walk _).mono ?_; rintro e w2 ⟨rfl, hb2⟩)
    go_ret
    exact ⟨rfl, hb2⟩
  · have hb : decide (n < 0) = false := by simpa using h0
    have h1 : 30 < n := by omega
    go_enter Try.func5, Try.ntmps5
    go_wp2_with (go_at_call 13; refine (alive_walk _).mono ?_; rintro e w2 ⟨rfl, hb2⟩)
    go_ret
    exact ⟨rfl, hb2⟩

theorem roomed_le {l : List (Int × ByteArray)} {cap : Nat} (h : cap ≤ 16 + 2 * l.length) : roomed l cap ≤ 16 + 2 * (l.length + 1) := by
  unfold roomed
  split
  · omega
  · omega

/-- A write to page 0 of a device whose fuse burns. -/
theorem burn {s : DevS} {d : ByteArray} (hon : s.on = true) (hf : 0 ≤ s.fuse) (h1 : s.pages.length = 1) (hd : d.size = 256) :
    writeE s 0 d = (if 0 < s.fuse then 0 else 14) ∧ (writeS s 0 d).on = decide (0 < s.fuse) ∧ (writeS s 0 d).fuse = s.fuse - 1 ∧ (writeS s 0 d).pages.length = 1 ∧ (writeS s 0 d).line.length = s.line.length + 1 ∧ (writeS s 0 d).cap = roomed s.line s.cap := by
  have hp : powS s = { s with on := decide (0 < s.fuse), fuse := s.fuse - 1 } := by unfold powS; rw [if_pos hon, if_neg (by omega)]
  have hfa : faultE (powS s) 0 d = 0 := by
    unfold faultE
    rw [hp, if_pos ⟨by omega, by simp [h1]⟩, if_pos hd]
  unfold writeE writeS
  rw [if_pos hon, if_pos hon, if_pos hfa, hfa, hp]
  refine ⟨?_, rfl, rfl, by simp [wroteS, h1], by simp [wroteS], rfl⟩
  by_cases h : 0 < s.fuse
  · rw [if_pos h, if_pos (by simpa using h)]
  · rw [if_neg h, if_neg (by simpa using h)]

/-- Where the loop stands. -/
def At (w1 : World) (p n : Nat) (i dn : Value) (k : Nat) (wr : World) : Prop :=
  ∃ (s : DevS) (F : List Nat), i = .int .i64 k ∧ DevAt wr p s F ∧ Goes [p] w1 F wr ∧ s.pages.length = 1 ∧ s.line.length = k ∧ s.cap ≤ 16 + 2 * k ∧
    ((s.on = true ∧ s.fuse = (n : Int) - k ∧ dn = .int .i64 k ∧ k ≤ n) ∨ (s.on = false ∧ k = n + 1 ∧ dn = .int .i64 n))

set_option maxRecDepth 1000000 in
set_option maxHeartbeats 800000 in
theorem walk_whole (w : World) (n : Nat) (h : n ≤ 30) : Calls Try.prog 5 #[.int .i64 n] w fun e w' => e = .returned (.bool true) ∧ Below w.heap.size w w' := by
  have hb : decide ((n : Int) < 0) = false := by simp
  go_enter Try.func5, Try.ntmps5
  go_wp2_with fail
  refine (new_ok 2 w (by omega) (by omega)).mono ?_
  rintro e w1 ⟨rfl, hd, hb1⟩
  have hgr := grow_any w.heap.size (newS 2) _ 1 w1 hd
  rw [((newS_idle 2).grow 1).1, ((newS_idle 2).grow 1).2, show growE (newS 2) 1 = 0 from by decide, show growS (newS 2) 1 = longer (newS 2) 1 from rfl] at hgr
  have H1 := Lib.hid hb1
  clear hd hb1
  go_wp2_with fail
  refine hgr.mono ?_
  rintro e w2 ⟨rfl, F2, hd, hg2⟩
  have hfu := fuse_any w.heap.size _ F2 n w2 (by unfold IsInt; omega) hd
  have hm2 := hd.mem
  have H2 := Lib.hid hg2
  clear hd hg2 hgr
  go_wp2_with fail
  refine hfu.mono ?_
  rintro e w3 ⟨rfl, hd3, hk3⟩
  have hst : At w1 w.heap.size n (.int .i64 0) (.int .i64 0) 0 w3 :=
    ⟨_, F2, rfl, hd3, H2.out.trans (goes_of_kept hk3 (by simpa using hm2)), by simp [longer, newS], rfl, by simp [longer, newS], .inl ⟨rfl, by simp; omega, rfl, by omega⟩⟩
  have HST := Lib.hid hst
  clear hd3 hk3 hst hfu
  go_wp2_with fail
  go_loopg [5, 6] (n + 1) (fun g dn i wr => ∃ k, k + g = n + 1 ∧ At w1 w.heap.size n i dn k wr)
  case atStart => exact ⟨0, by omega, HST.out⟩
  case round =>
    clear HST
    obtain ⟨k, hkg, s, F, rfl, hd, hgo, hpl, hll, hcap, hcase⟩ := hrel
    have hon := on_any w.heap.size s F wr hd
    have hk40 : (k : Int) < 40 := by omega
    have hb40 : decide ((k : Int) < 40) = true := by simpa using hk40
    rcases hcase with ⟨h1, h2, rfl, h3⟩ | ⟨h1, h2, rfl⟩
    · rw [h1] at hon
      have HD := Lib.hid (And.intro hd (And.intro hgo (And.intro hpl (And.intro hll (And.intro hcap (And.intro h1 h2))))))
      have hkm : (k : Int) % 256 = k := by omega
      clear hd hgo hpl hll hcap h1 h2
      go_wp2_with (go_at_call 19; refine hon.mono ?_; rintro e w' ⟨rfl, rfl⟩)
      refine (filled_any k 0 _ (by omega)).mono ?_
      rintro e w4 ⟨rfl, hb4⟩
      obtain ⟨hd, hgo, hpl, hll, hcap, h1, h2⟩ := HD.out
      obtain ⟨hd4, hg4⟩ := hd.goes hb4
      have hwr := write_any w.heap.size s F 0 (filledB k 0) w4 hd4 (by omega)
      obtain ⟨e1, e2, e3, e4, e5, e6⟩ := burn (d := filledB k 0) h1 (by omega) hpl (filledB_size _ _)
      by_cases hkn : k < n
      · rw [e1, if_pos (by omega)] at hwr
        have HW := Lib.hid (And.intro e2 (And.intro e3 (And.intro e4 (And.intro e5 (And.intro e6 (hgo.trans hg4))))))
        clear hd hgo hpl hll hcap h1 h2 hd4 hg4 e1 e2 e3 e4 e5 e6 hb4
        go_wp2_with fail
        refine hwr.mono ?_
        rintro e w5 ⟨rfl, F5, hd5, hg5⟩
        have H5 := Lib.hid (And.intro hd5 hg5)
        clear hd5 hg5 hwr
        go_wp2
        go_roundg (n - k)
        case measure => omega
        case rel =>
          obtain ⟨e2, e3, e4, e5, e6, hg⟩ := HW.out
          obtain ⟨hd, hgo, hpl, hll, hcap, h1, h2⟩ := HD.out
          refine ⟨k + 1, by omega, _, F5, by go_num, H5.out.1, hg.trans H5.out.2, e4, by rw [e5, hll], ?_, .inl ⟨?_, ?_, by go_num, by omega⟩⟩
          · rw [e6]
            have := roomed_le (l := s.line) (cap := s.cap) (by omega)
            omega
          · rw [e2]
            simp
            omega
          · rw [e3, h2]
            simp
            omega
      · obtain rfl : k = n := by omega
        rw [e1, if_neg (by omega)] at hwr
        have HW := Lib.hid (And.intro e2 (And.intro e3 (And.intro e4 (And.intro e5 (And.intro e6 (hgo.trans hg4))))))
        clear hd hgo hpl hll hcap h1 h2 hd4 hg4 e1 e2 e3 e4 e5 e6 hb4
        go_wp2_with fail
        refine hwr.mono ?_
        rintro e w5 ⟨rfl, F5, hd5, hg5⟩
        have H5 := Lib.hid (And.intro hd5 hg5)
        clear hd5 hg5 hwr
        go_wp2
        go_roundg 0
        case measure => omega
        case rel =>
          obtain ⟨e2, e3, e4, e5, e6, hg⟩ := HW.out
          obtain ⟨hd, hgo, hpl, hll, hcap, h1, h2⟩ := HD.out
          refine ⟨k + 1, by omega, _, F5, by go_num, H5.out.1, hg.trans H5.out.2, e4, by rw [e5, hll], ?_, .inr ⟨?_, by omega, rfl⟩⟩
          · rw [e6]
            have := roomed_le (l := s.line) (cap := s.cap) (by omega)
            omega
          · rw [e2]
            simp
            omega
    · rw [h1] at hon
      have hun := unsynced_any w.heap.size s F
      have hsy := sync_any w.heap.size s F
      have e1 : syncAE s = 14 := by
        have hp : powS s = s := by unfold powS; rw [if_neg (by rw [h1]; decide)]
        unfold syncAE
        rw [hp, if_neg (by rw [h1]; decide)]
      rw [hll, h2] at hun
      have hk30 : k ≤ 31 := by omega
      have HU := Lib.hid hun
      have hsl : s.line.length ≤ 100000000000 := by omega
      have HS := Lib.hid (And.intro hsy (And.intro e1 hsl))
      have HD := Lib.hid (And.intro hd hgo)
      clear hun hsy e1 hd hgo hpl hll hcap h1 h2 hsl
      go_wp2_with (go_at_call 19; refine hon.mono ?_; rintro e w' ⟨rfl, rfl⟩)
      refine (alive_walk _).mono ?_
      rintro e w5 ⟨rfl, hb5⟩
      obtain ⟨hd5, hg5⟩ := HD.out.1.goes hb5
      have hun := HU.out w5 hd5
      have hsy := HS.out.1 w5 hd5 HS.out.2.2
      rw [HS.out.2.1] at hsy
      have H5 := Lib.hid (HD.out.2.trans hg5)
      clear hd5 hg5 hb5
      go_wp2_with (go_at_call 18; refine hun.mono ?_; rintro e w' ⟨rfl, rfl⟩)
      refine hsy.mono ?_
      rintro e w6 ⟨rfl, hd6, hk6⟩
      have hfin : Below w.heap.size w w6 := H1.out.trans (((H5.out.trans (goes_of_kept hk6 (fun k hk => hk))).1).below H1.out.size (by simp))
      have HFIN := Lib.hid hfin
      clear hd6 hk6 hfin hsy
      go_wp2
      go_ret
      exact ⟨rfl, HFIN.out⟩

theorem walk (w : World) (n : Int) (_hn : IsInt n) : Calls Try.prog 5 #[.int .i64 n] w fun e w' => e = .returned (.bool true) ∧ Below w.heap.size w w' := by
  by_cases h : n < 0 ∨ 30 < n
  · exact walk_out w n h
  · obtain ⟨k, rfl⟩ : ∃ k : Nat, n = k := ⟨n.toNat, by omega⟩
    exact walk_whole w k (by omega)

set_option maxRecDepth 100000 in
theorem lifted (os : Os) (started : os.Started) (H : Type) (enc : TypeId × Value → H) :
    ReturnsInHanded {} Try.checked os 5 .any (Rows.devFusesSpec.pre6 enc Try.prog Try.f5 Rows.devFusesRow.domain false) (Rows.devFusesSpec.post enc Try.prog Try.f5 false true false false) := by
  refine returnsInHanded_of_change (C := Try.checked) own started (by kernel_rfl) Try.func5
    (ChangeSpec.witness6 (enc := enc) (C := Try.checked) false ⟨#[], #[.int .i64 0], []⟩ 8 (by kernel_rfl) (by kernel_rfl) (by kernel_rfl) (by kernel_rfl)) ?_
  intro W base args ds gs before hval0 hW hcnd _
  have hval : ∀ (j : Nat) t v, Try.f5.params[j]? = some t → args[j]? = some v → Value.okWide Try.prog W .any base t v := hval0
  have hW' := hW
  obtain ⟨p, q, hA0, hV, rfl, hfz, hnd⟩ := hW
  have hA : DataW.TrodAll enc Try.prog W 0 (fun _ => true) true Try.f5.params.toList args.toList ds p := hA0
  rw [Try.params5] at hA hval
  obtain ⟨v0, vs0, d0, ds0, p0, q0, hargs, rfl, rfl, h0, r00⟩ := trodAll_cons hA
  obtain ⟨rfl, rfl, rfl⟩ := trodAll_nil r00
  obtain rfl : args = #[v0] := by cases args; simp_all
  obtain ⟨rfl, rfl⟩ := trodVars_none hV
  obtain ⟨n0, rfl, rfl, rfl, w0⟩ := open_int Try.underlying3 (hval 0 3 v0 rfl rfl) h0
  clear hA0 hval0
  refine (walk W n0 (isInt_of_wf w0)).mono fun e W' ⟨he, hb⟩ => ?_
  subst he
  exact ⟨_, rfl, law_post hW' rfl rfl (by kernel_rfl) (by kernel_rfl) hb⟩

theorem said : Rows.DevFusesSaid :=
  OpenClaim.holds_of_wide 5 Try.f5 rfl rfl rfl rfl rfl rfl rfl ⟨rfl, rfl, rfl, rfl, rfl⟩ rfl rfl rfl rfl rfl (by kernel_rfl) Try.func5 (by kernel_rfl)
    (of_decide_eq_true (by kernel_rfl)) (by unfold Func.isWrapper; first | (rw [if_pos (by decide +kernel)]; kernel_rfl) | (rw [if_neg (by decide +kernel)]; exact ⟨rfl, rfl⟩))
    (fun os started H enc _ => lifted os started H enc)

end Go.Proofs.Ytlmhhoijbebcbaa.devFuses
