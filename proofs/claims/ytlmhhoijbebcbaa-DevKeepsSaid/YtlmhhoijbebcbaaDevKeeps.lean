/-
  DevKeeps: of each sector there is what was synced, or what was written to it since; nothing more is lost by a second failure: for every two []byte and []int. Conditions: none but those of the given statement.
-/
import Derived.Test.YtlmhhoijbebcbaaG2
import Derived.Test.YtlmhhoijbebcbaaFrameS
import Derived.Deep.RegionHeld3
namespace Go.Proofs.Ytlmhhoijbebcbaa.devKeeps
open Go.ChangeShapes Go.WideShapes Go.ChangeAt Go.RowKit Go.Lib

/-- Bytes that came in, as they are read wherever the call stands. -/
def Given (w : World) (A : Option Addr) (S : List Nat) : Prop :=
  ∀ wr, Below w.heap.size w wr → ∀ j, j < S.length → ∃ b off, A = some ⟨b, off, none⟩ ∧ b < w.heap.size ∧ wr.cell? ⟨b, off + j, none⟩ = some (.int .u8 (S.getD j 0 : Nat))
theorem given {w : World} {v : Value} {S : List Nat} (h : Reads1 w w.heap.size v (S.map fun b : Nat => Value.int .u8 (b : Int))) : ∃ A c, v = .slice A S.length c ∧ Given w A S := by
  obtain ⟨A, c, rfl, hc⟩ := h
  refine ⟨A, c, by simp, fun wr hb j hj => ?_⟩
  obtain ⟨b, off, rfl, hbb, hcc⟩ := hc (by simp; omega)
  refine ⟨b, off, rfl, hbb, (hb.cell (p := ⟨b, off + j, none⟩) hbb).trans (hcc j _ ?_)⟩
  rw [List.getElem?_map, List.getElem?_eq_getElem hj, List.getD, List.getElem?_eq_getElem hj]
  rfl
theorem getD_lt {S : List Nat} (h : ∀ x ∈ S, x < 256) (j : Nat) : S.getD j 0 < 256 := by
  rw [List.getD]
  rcases hj : S[j]? with _ | x
  · simp
  · exact h x (List.mem_of_getElem? hj)

theorem same_of {X Y : ByteArray} {q : Nat} (h : sector q X.data.toList = sector q Y.data.toList) : ((X.extract (32 * q) (32 * q + 32)).toList == (Y.extract (32 * q) (32 * q + 32)).toList) = true := by
  have := part_eq h
  rw [show q * 32 = 32 * q by omega, show (q + 1) * 32 = 32 * q + 32 by omega] at this
  rw [this]
  simp
/-- Where the device stands, of all blocks that are none of the caller's. -/
def At (w1 : World) (p : Nat) (s : DevS) (wr : World) : Prop := ∃ F, DevAt wr p s F ∧ Goes [p] w1 F wr
theorem At.below {w w1 wr : World} {s : DevS} (h : At w1 w.heap.size s wr) (hb : Below w.heap.size w w1) : Below w.heap.size w wr := by
  obtain ⟨F, _, h⟩ := h
  exact hb.trans (h.1.below hb.size (by simp))
theorem At.blocks {w w1 : World} {F : List Nat} {wr : World} (h : Goes [w.heap.size] w1 F wr) (hb : Below w.heap.size w w1) : ∀ i ∈ F, w.heap.size ≤ i := by
  intro i hi
  rcases h.2 i hi with h | h
  · simp at h; omega
  · exact Nat.le_trans hb.size h

set_option maxRecDepth 1000000 in
set_option maxHeartbeats 800000 in
theorem walk_out (w : World) (A1 A2 A3 : Option Addr) (n1 c1 n2 c2 n3 c3 : Nat) (h : 8 < n1 ∨ n1 = 0 ∨ 40 < n2 ∨ 60 < n3) : Calls Try.prog 4 #[.slice A1 n1 c1, .slice A2 n2 c2, .slice A3 n3 c3] w fun e w' => e = .returned (.bool true) ∧ Below w.heap.size w w' := by
  by_cases h1 : (8 : Int) < n1
  · clear h
    go_enter Try.func4, Try.ntmps4
    go_wp2_with (go_at_call 13; refine (alive_walk _).mono ?_; rintro e w2 ⟨rfl, hb2⟩)
    go_ret
    exact ⟨rfl, hb2⟩
  · by_cases h2 : n1 = 0
    · subst h2
      clear h
      go_enter Try.func4, Try.ntmps4
      go_wp2_with (go_at_call 13; refine (alive_walk _).mono ?_; rintro e w2 ⟨rfl, hb2⟩)
      go_ret
      exact ⟨rfl, hb2⟩
    · have b2 : ((n1 : Int) == 0) = false := by simpa using h2
      by_cases h3 : (40 : Int) < n2
      · clear h
        go_enter Try.func4, Try.ntmps4
        go_wp2_with (go_at_call 13; refine (alive_walk _).mono ?_; rintro e w2 ⟨rfl, hb2⟩)
        go_ret
        exact ⟨rfl, hb2⟩
      · have h4 : (60 : Int) < n3 := by omega
        clear h
        go_enter Try.func4, Try.ntmps4
        go_wp2_with (go_at_call 13; refine (alive_walk _).mono ?_; rintro e w2 ⟨rfl, hb2⟩)
        go_ret
        exact ⟨rfl, hb2⟩

set_option maxRecDepth 1000000 in
set_option maxHeartbeats 3000000 in
theorem walk_whole (w : World) (A1 A2 : Option Addr) (c1 c2 : Nat) (v3 : Value) (S M : List Nat) (L : List Int) (g1 : Given w A1 S) (g2 : Given w A2 M) (r3 : Reads1 w w.heap.size v3 (L.map (Value.int .i64))) (i1 : ∀ x ∈ S, x < 256) (i2 : ∀ x ∈ M, x < 256) (i3 : ∀ x ∈ L, IsInt x)
    (h1 : 1 ≤ S.length) (h2 : S.length ≤ 8) (h3 : M.length ≤ 40) (h4 : L.length ≤ 60) :
    Calls Try.prog 4 #[.slice A1 S.length c1, .slice A2 M.length c2, v3] w fun e w' => e = .returned (.bool true) ∧ Below w.heap.size w w' := by
  have hform : ∃ A c, v3 = .slice A L.length c := by obtain ⟨A, c, rfl, _⟩ := r3; exact ⟨A, c, by simp⟩
  obtain ⟨A3, c3, rfl⟩ := hform
  have G1 := Lib.hid g1
  have G2 := Lib.hid g2
  have R3 := Lib.hid r3
  have I1 := Lib.hid (getD_lt i1)
  have I2 := Lib.hid (getD_lt i2)
  have I3 := Lib.hid i3
  obtain ⟨m, hm⟩ : ∃ m, S.length = m := ⟨_, rfl⟩
  obtain ⟨n, hn⟩ : ∃ n, M.length = n := ⟨_, rfl⟩
  rw [hm] at h1 h2 ⊢
  rw [hn] at h3 ⊢
  have MM := Lib.hid (And.intro hm hn)
  have b1 : ((8 : Int) < m) = False := by simp; omega
  have b2 : ((m : Int) == 0) = false := by simp; omega
  have b3 : ((40 : Int) < n) = False := by simp; omega
  have b4 : ((60 : Int) < L.length) = False := by simp; omega
  clear g1 g2 r3 i1 i2 i3 hm hn
  go_enter Try.func4, Try.ntmps4
  go_wp2_with fail
  refine (new_ok 8 w (by omega) (by omega)).mono ?_
  rintro e w1 ⟨rfl, hd, hb1⟩
  have hgr := grow_any w.heap.size (newS 8) _ m w1 hd
  rw [(grown_new m h2).1, (grown_new m h2).2] at hgr
  have H1 := Lib.hid hb1
  clear hd hb1
  go_wp2_with fail
  refine hgr.mono ?_
  rintro e w2 ⟨rfl, F2, hd, hg2⟩
  have hst : At w1 w.heap.size (safeS S 0) w2 := ⟨F2, by rw [show safeS S 0 = longer (newS 8) S.length from rfl, MM.out.1]; exact hd, hg2⟩
  have HST := Lib.hid hst
  clear hd hg2 hgr hst
  go_wp2_with fail
  go_loopw [9] (fun i wr => ∃ k : Nat, k ≤ m ∧ i = .int .i64 k ∧ At w1 w.heap.size (safeS S k) wr) (fun i _ => m - (RowKit.intOf i).toNat)
  case atStart => exact ⟨0, Nat.zero_le _, rfl, HST.out⟩
  case round =>
    clear HST
    obtain ⟨k, hk, rfl, hat⟩ := hrel
    by_cases hlt : k < m
    · have hlt' : (k : Int) < (m : Int) := by omega
      obtain ⟨b, off, rfl, hbb, hck⟩ := G1.out wr (hat.below H1.out) k (by rw [MM.out.1]; omega)
      obtain ⟨x, hx⟩ : ∃ x, S.getD k 0 = x := ⟨_, rfl⟩
      rw [hx] at hck
      have hxl : x < 256 := by rw [← hx]; exact I1.out k
      have HX := Lib.hid hx
      have HA := Lib.hid hat
      clear hat hx
      go_wp2_with fail
      refine (filledB_any x 0 _ hxl).mono ?_
      rintro e w4 ⟨rfl, hb4⟩
      obtain ⟨F, hd, hg⟩ := HA.out
      obtain ⟨hd4, hg4⟩ := hd.goes hb4
      obtain ⟨a, b', c', d', e', f'⟩ := safe_facts S (by rw [MM.out.1]; exact h2) k (by rw [MM.out.1]; exact hk)
      have hwr := write_any w.heap.size (safeS S k) F k (filledB x 0) w4 hd4 (by omega)
      rw [(a.write (n := k) (by omega) (by rw [b', MM.out.1]; omega) (filledB_size _ _)).1, (a.write (n := k) (by omega) (by rw [b', MM.out.1]; omega) (filledB_size _ _)).2.1] at hwr
      have HG := Lib.hid (hg.trans hg4)
      clear hd hg hd4 hg4 hb4 a b' c' d' e' f'
      go_wp2_with fail
      refine hwr.mono ?_
      rintro e w5 ⟨rfl, F5, hd5, hg5⟩
      have H5 := Lib.hid (show At w1 w.heap.size (safeS S (k + 1)) w5 from ⟨F5, by show DevAt _ _ (wroteS _ _ (filledB (S.getD k 0) 0)) _; rw [HX.out]; exact hd5, HG.out.trans hg5⟩)
      clear hd5 hg5 hwr
      go_wp2
      go_roundw
      case rel => exact ⟨k + 1, by omega, by go_num, H5.out⟩
      case measure => simp [RowKit.intOf]; omega
    · obtain rfl : k = m := by omega
      have hge1 : ((k : Int) < (k : Int)) = False := by simp
      obtain ⟨F, hd, hg⟩ := hat
      obtain ⟨a, b', c', d', e', f'⟩ := safe_facts S (by rw [MM.out.1]; exact h2) k (by rw [MM.out.1]; exact hk)
      have hsy := sync_any w.heap.size (safeS S k) F wr hd (by rw [d', lineOf_length]; omega)
      rw [a.sync.1, a.sync.2] at hsy
      have HG := Lib.hid hg
      clear hd hg a b' c' d' e' f'
      go_wp2_with fail
      refine hsy.mono ?_
      rintro e w3 ⟨rfl, hd3, hk3⟩
      have hst : At w1 w.heap.size (moreS S M 0) w3 := ⟨F, by show DevAt _ _ (syncedS (safeS S S.length)) _; rw [MM.out.1]; exact hd3, HG.out.trans (goes_of_kept hk3 (fun k hk => hk))⟩
      have HST := Lib.hid hst
      clear hd3 hk3 hst hsy HG
      go_wp2_with fail
      obtain ⟨wo, rfl⟩ : ∃ wo : World, wo = wr := ⟨_, rfl⟩
      go_loopw [10] (fun i wr => ∃ j : Nat, j ≤ n ∧ i = .int .i64 j ∧ At w1 w.heap.size (moreS S M j) wr) (fun i _ => n - (RowKit.intOf i).toNat)
      case atStart => exact ⟨0, Nat.zero_le _, rfl, HST.out⟩
      case round =>
        clear HST
        obtain ⟨j, hj, rfl, hat⟩ := hrel
        by_cases hlt : j < n
        · have hlt' : (j : Int) < (n : Int) := by omega
          have hbw := hat.below H1.out
          obtain ⟨b, off, rfl, hbb, hck⟩ := G2.out wr hbw j (by rw [MM.out.2]; omega)
          obtain ⟨x, hx⟩ : ∃ x, M.getD j 0 = x := ⟨_, rfl⟩
          rw [hx] at hck
          have hxl : x < 256 := by rw [← hx]; exact I2.out j
          have HX := Lib.hid hx
          obtain ⟨F, hd, hg⟩ := hat
          have hbs : b < wr.heap.size := Nat.lt_of_lt_of_le hbb hbw.size
          have hbF : b ∉ F := fun h => by have := At.blocks hg H1.out b h; omega
          obtain ⟨pg, hpg⟩ : ∃ pg : Nat, j % k = pg := ⟨_, rfl⟩
          have hpk : pg < k := by rw [← hpg]; exact Nat.mod_lt _ (by omega)
          have hrem : (j : Int).tmod (k : Int) = (pg : Int) := by rw [Int.tmod_eq_emod_of_nonneg (by omega)]; omega
          have hk0 : ¬ (k : Int) = 0 := by omega
          have hk1 : ¬ k = 0 := by omega
          have hfil : ∀ W, Calls Try.prog 22 #[.int .u8 x, .int .i64 0] W fun e w' => e = .returned (.string (filledB x 0)) ∧ Below W.heap.size W w' := fun W => filledB_any x 0 W hxl
          have HFIL := Lib.hid hfil
          have hwr : ∀ w4, Below wr.drew.heap.size wr.drew w4 → Calls Try.prog 15 #[.pointer (some ⟨w.heap.size, 0, none⟩), .int .i64 pg, .string (filledB x 0)] w4 (DevTo w.heap.size (moreS S M (j + 1)) (.int .i64 0) F w4) := by
            intro w4 h
            obtain ⟨a, b', c', d', e', f', g'⟩ := more_facts S M (by rw [MM.out.1]; exact h1) (by rw [MM.out.1]; exact h2) j (by omega)
            have := write_any w.heap.size (moreS S M j) F pg (filledB x 0) w4 ((hd.drew).goes h).1 (by omega)
            rw [(a.write (n := pg) (by omega) (by rw [b', MM.out.1]; omega) (filledB_size _ _)).1, (a.write (n := pg) (by omega) (by rw [b', MM.out.1]; omega) (filledB_size _ _)).2.1] at this
            have e1 : moreS S M (j + 1) = wroteS (moreS S M j) (pg : Int) (filledB x 0) := by
              show wroteS (moreS S M j) ((j % S.length : Nat) : Int) (filledB (M.getD j 0) 0) = _
              rw [MM.out.1, HX.out, hpg]
            rw [e1]
            exact this
          have HWR := Lib.hid hwr
          have HD := Lib.hid (And.intro hd hg)
          clear hwr hd hg hbw hx hpg hfil
          go_wp2_with fail
          go_region_held3 (fun w' => w'.cell? ⟨b, off + j, none⟩ = some (.int .u8 x)) (first | exact hck | exact hck2 | exact hck3) (first
            | (go_at_call 22; ((with_reducible refine (HFIL.out _).mono ?_)); rintro e w4 ⟨rfl, hb4⟩; have hck2 := (hb4.cell (p := ⟨b, off + j, none⟩) hbs).trans hck)
            | (go_at_call 15; ((with_reducible refine (HWR.out _ hb4).mono ?_)); rintro e w5 ⟨rfl, F5, hd5, hg5⟩; have hck3 := (hg5.1.cell (p := ⟨b, off + j, none⟩) (Nat.lt_of_lt_of_le hbs hb4.size) hbF).trans hck2))
          have H5 : Hid (At w1 w.heap.size (moreS S M (j + 1)) w5) := by
            obtain ⟨hd, hg⟩ := HD.out
            exact ⟨F5, hd5, ((hg.trans (goes_of_kept ((Kept.refl [] wr).drew) (by simp))).trans ((hd.drew).goes hb4).2).trans hg5⟩
          clear hd5 hg5 hb4 hck hck2 hck3
          go_wp2
          go_roundw
          case rel => exact ⟨j + 1, by omega, by go_num, H5.out⟩
          case measure => simp [RowKit.intOf]; omega
        · obtain rfl : j = n := by omega
          have hge2 : ((j : Int) < (j : Int)) = False := by simp
          have hbw := hat.below H1.out
          obtain ⟨F, hd, hg⟩ := hat
          obtain ⟨a, b', c', d', e', f', g'⟩ := more_facts S M (by rw [MM.out.1]; exact h1) (by rw [MM.out.1]; exact h2) j (by omega)
          have hcr := crash_any w.heap.size (moreS S M j) F (.slice A3 L.length c3) L wr hd ((R3.out.below hbw).off hbw.size (At.blocks hg H1.out)) I3.out (by rw [d', lineOf_length]; omega)
          have HG := Lib.hid hg
          clear hd hg hbw a b' c' d' e' f' g' R3 I3
          go_wp2_with fail
          refine hcr.mono ?_
          rintro e w3 ⟨rfl, hd3, hk3⟩
          have HEND := Lib.hid (end_facts S M L (by rw [MM.out.1]; exact h1) (by rw [MM.out.1]; exact h2) (by rw [MM.out.2]; exact h3))
          have hre := restore_any w.heap.size (crashS (moreS S M j) L) F w3 hd3 (by have := HEND.out.2.2.1; rw [MM.out.2] at this; rw [this]; decide)
          have hmm := hd3.mem
          have HG3 := Lib.hid (HG.out.trans (goes_of_kept hk3 (fun k hk => hk)))
          clear hd3 hk3 hcr HG
          go_wp2_with fail
          refine hre.mono ?_
          rintro e wB ⟨rfl, hdB, hkB⟩
          have hgB := HG3.out.trans (goes_of_kept hkB (by simpa using hmm))
          have hdB' : DevAt wB w.heap.size (endS S M L) F := by
            unfold endS
            rw [MM.out.2]
            exact hdB
          have HB := Lib.hid (And.intro hdB' (And.intro hgB (At.below (s := endS S M L) ⟨F, hdB', hgB⟩ H1.out)))
          clear hdB hkB hgB hdB' hre HG3 hmm
          go_wp2_with fail
          obtain ⟨wo2, rfl⟩ : ∃ wo2 : World, wo2 = wr := ⟨_, rfl⟩
          go_loopw [11, 12] (fun u i wr => ∃ p : Nat, p ≤ k ∧ i = .int .i64 p ∧ Texts wr wB.heap.size u ((List.range p).map (E S M L)) ∧ Below wB.heap.size wB wr) (fun _ i _ => k - (RowKit.intOf i).toNat)
          case atStart => exact ⟨0, Nat.zero_le _, rfl, Texts.nil_ _ _, Below.refl _ _⟩
          case round =>
            obtain ⟨p, hp, rfl, htx, hbr⟩ := hrel
            by_cases hpk : p < k
            · have hpk' : (p : Int) < (k : Int) := by omega
              have hrd := read_any w.heap.size (endS S M L) F p wr (HB.out.1.goes hbr).1
              have hro := read_of (s := endS S M L) (n := p) rfl (HEND.out.2.2.2 p (by rw [MM.out.1]; exact hpk))
              rw [hro.1, hro.2] at hrd
              have HSEC := Lib.hid (fun q (hq : q < 8) => E_sector S M L p q hq)
              have hXs := E_size S M L p
              have HN : Hid ((List.range p).map (E S M L) ++ [E S M L p] = (List.range (p + 1)).map (E S M L)) := by show _ = _; simp [List.range_succ]
              have hll : ((List.range p).map (E S M L)).length ≤ 1000000 := by simp; omega
              have HT := Lib.hid (And.intro htx hbr)
              generalize E S M L p = X at *
              have e0 : ((X.size : Int) == 256) = true := by rw [hXs]; rfl
              clear hro htx hbr
              go_wp2_with fail
              refine hrd.mono ?_
              rintro e w5 ⟨rfl, hb5⟩
              have htx5 := HT.out.1.kept (F := []) (Kept.of_below hb5) (by simp)
              have hbB5 : Below wB.heap.size wB w5 := HT.out.2.trans (hb5.mono HT.out.2.size)
              have hs5 := hbB5.size
              have HB5 := Lib.hid hbB5
              clear hb5 hbB5 hrd
              go_wp2_with (at_builtin; refine append_text rfl _ _ rfl wB.heap.size w5 u11 _ rfl htx5 X rfl hll hs5 ?_; intro v7 w7 q1 q2)
              rw [HN.out] at q1
              have HP := Lib.hid (And.intro q1 (HB5.out.trans q2))
              clear q1 q2 htx5 hs5 HT
              obtain ⟨wo3, rfl⟩ : ∃ wo3 : World, wo3 = wr := ⟨_, rfl⟩
              go_loopw [15] (fun i wr => ∃ q : Nat, q ≤ 8 ∧ i = .int .i64 q ∧ Below w7.heap.size w7 wr) (fun i _ => 8 - (RowKit.intOf i).toNat)
              case atStart => exact ⟨0, Nat.zero_le _, rfl, Below.refl _ _⟩
              case round =>
                obtain ⟨q, hq, rfl, hbq⟩ := hrel
                by_cases hq8 : q < 8
                · have hq8' : (q : Int) < 8 := by omega
                  have hbw : Below w.heap.size w wr := (HB.out.2.2.trans (HP.out.2.mono HB.out.2.2.size)).trans (hbq.mono (Nat.le_trans HB.out.2.2.size HP.out.2.size))
                  obtain ⟨b, off, rfl, hbb, hck⟩ := G1.out wr hbw p (by rw [MM.out.1]; omega)
                  obtain ⟨x, hx⟩ : ∃ x, S.getD p 0 = x := ⟨_, rfl⟩
                  rw [hx] at hck
                  have hxl : x < 256 := by rw [← hx]; exact I1.out p
                  have HX := Lib.hid hx
                  have hfil : ∀ W, Calls Try.prog 22 #[.int .u8 x, .int .i64 0] W fun e w' => e = .returned (.string (filledB x 0)) ∧ Below W.heap.size W w' := fun W => filledB_any x 0 W hxl
                  have HFIL := Lib.hid hfil
                  have hfs := filledB_size x 0
                  have HQ := Lib.hid hbq
                  clear hx hfil hbw hbq
                  go_wp2_with fail
                  refine (HFIL.out _).mono ?_
                  rintro e w8 ⟨rfl, hb8⟩
                  generalize hY : filledB x 0 = Y at *
                  have HY := Lib.hid hY
                  have HQ8 := Lib.hid (HQ.out.trans (hb8.mono HQ.out.size))
                  clear hY hb8
                  go_wp2_with fail
                  obtain ⟨g0, hg0⟩ : ∃ g0, ((X.extract (32 * q) (32 * q + 32)).toList == (Y.extract (32 * q) (32 * q + 32)).toList) = g0 := ⟨_, rfl⟩
                  rw [hg0]
                  have hbase : sector q X.data.toList = sector q (filledB (S.getD p 0) 0).data.toList → g0 = true := by
                    intro h
                    rw [HX.out, HY.out] at h
                    rw [← hg0]
                    exact same_of h
                  have HBASE := Lib.hid hbase
                  clear hg0 hbase hfs
                  obtain ⟨wo4, rfl⟩ : ∃ wo4 : World, wo4 = wr := ⟨_, rfl⟩
                  go_loopw [17, 18] (fun g i wr => ∃ (t i0 : Nat) (gb : Bool), i = .int .i64 i0 ∧ g = .bool gb ∧ i0 = p + t * k ∧ i0 ≤ 48 ∧ (g0 = true → gb = true) ∧ (∀ t', t' < t → p + t' * k < j → sector q X.data.toList = sector q (filledB (M.getD (p + t' * k) 0) 0).data.toList → gb = true) ∧ Below w8.heap.size w8 wr) (fun _ i _ => j - (RowKit.intOf i).toNat)
                  case atStart => exact ⟨0, p, g0, rfl, rfl, by omega, by omega, fun h => h, fun t' h => absurd h (by omega), Below.refl _ _⟩
                  case round =>
                    obtain ⟨t, i0, gb, rfl, rfl, hi0, hi48, hgb, hgt, hbt⟩ := hrel
                    by_cases hij : i0 < j
                    · have hij' : (i0 : Int) < (j : Int) := by omega
                      have hnext : i0 + k = p + (t + 1) * k := by rw [Nat.succ_mul]; omega
                      have hik : IntKind.i64.wrap ((i0 : Int) + (k : Int)) = (i0 : Int) + (k : Int) := by rw [IntKind.wrap_i64]; omega
                      have hk48 : i0 + k ≤ 48 := by omega
                      have HNEXT := Lib.hid hnext
                      cases gb with
                      | true =>
                        have HBT := Lib.hid hbt
                        clear hbt hgb hgt hi0 hnext
                        go_wp2
                        go_roundw
                        case rel => exact ⟨t + 1, i0 + k, true, by go_num, rfl, HNEXT.out, hk48, fun _ => rfl, fun _ _ _ _ => rfl, HBT.out⟩
                        case measure => simp [RowKit.intOf]; omega
                      | false =>
                        have hbw : Below w.heap.size w wr := ((HB.out.2.2.trans (HP.out.2.mono HB.out.2.2.size)).trans (HQ8.out.mono (Nat.le_trans HB.out.2.2.size HP.out.2.size))).trans (hbt.mono (Nat.le_trans (Nat.le_trans HB.out.2.2.size HP.out.2.size) HQ8.out.size))
                        obtain ⟨b2, off2, rfl, hbb2, hck2⟩ := G2.out wr hbw i0 (by rw [MM.out.2]; exact hij)
                        obtain ⟨y, hy⟩ : ∃ y, M.getD i0 0 = y := ⟨_, rfl⟩
                        rw [hy] at hck2
                        have hyl : y < 256 := by rw [← hy]; exact I2.out i0
                        have hfil : ∀ W, Calls Try.prog 22 #[.int .u8 y, .int .i64 0] W fun e w' => e = .returned (.string (filledB y 0)) ∧ Below W.heap.size W w' := fun W => filledB_any y 0 W hyl
                        have HFIL2 := Lib.hid hfil
                        have hfs2 := filledB_size y 0
                        have HYY := Lib.hid hy
                        have HBT := Lib.hid (And.intro hbt (And.intro hgb (And.intro hgt hi0)))
                        clear hfil hbw hbt hgb hgt hi0 hy hnext
                        go_wp2_with fail
                        refine (HFIL2.out _).mono ?_
                        rintro e w9 ⟨rfl, hb9⟩
                        generalize hZ : filledB y 0 = Z at *
                        have HZ := Lib.hid hZ
                        have HB9 := Lib.hid (HBT.out.1.trans (hb9.mono HBT.out.1.size))
                        clear hZ hb9
                        go_wp2
                        go_roundw
                        case rel =>
                          obtain ⟨hbt, hgb, hgt, hi0⟩ := HBT.out
                          refine ⟨t + 1, i0 + k, _, by go_num, rfl, HNEXT.out, hk48, fun h => absurd (hgb h) (by simp), fun t' ht' hlt2 he => ?_, HB9.out⟩
                          by_cases htt : t' < t
                          · exact absurd (hgt t' htt hlt2 he) (by simp)
                          · obtain rfl : t' = t := by omega
                            rw [← hi0, HYY.out, HZ.out] at he
                            exact same_of he
                        case measure => simp [RowKit.intOf]; omega
                    · have hgood : gb = true := by
                        rcases HSEC.out q hq8 with h | ⟨t', ht', h⟩
                        · exact hgb (HBASE.out h)
                        · rw [MM.out.1, MM.out.2] at ht'
                          refine hgt t' ?_ ht' (by rw [MM.out.1] at h; exact h)
                          rcases Nat.lt_or_ge t' t with h5 | h5
                          · exact h5
                          · have := Nat.mul_le_mul_right k h5
                            omega
                      subst hgood
                      have hij' : ((i0 : Int) < (j : Int)) = False := by simp; omega
                      have HB9 := Lib.hid (HQ8.out.trans (hbt.mono HQ8.out.size))
                      clear hbt hgb hgt hi0
                      go_wp2
                      go_roundw
                      case rel => exact ⟨q + 1, by omega, by go_num, HB9.out⟩
                      case measure => simp [RowKit.intOf]; omega
                · obtain rfl : q = 8 := by omega
                  have hb7 : Below wB.heap.size wB wr := HP.out.2.trans (hbq.mono HP.out.2.size)
                  have htx7 := HP.out.1.kept (F := []) (Kept.of_below hbq) (by simp)
                  have HB7 := Lib.hid (And.intro htx7 hb7)
                  clear hbq hb7 htx7
                  go_wp2
                  go_roundw
                  case rel => exact ⟨p + 1, by omega, by go_num, HB7.out.1, HB7.out.2⟩
                  case measure => simp [RowKit.intOf]; omega
            · obtain rfl : p = k := by omega
              have hge3 : ((p : Int) < (p : Int)) = False := by simp
              obtain ⟨A9, c9, rfl, -⟩ := htx.form
              have hlen9 : ((List.range p).map (E S M L)).length = p := by simp
              rw [hlen9] at htx ⊢
              have hk8 : Kept [] wr (wr.alloc (.cells #[.int .i64 255, .int .i64 255] 3)) := (Kept.refl _ _).alloc _
              have hdr := (HB.out.1.goes hbr).1
              have hcr := crash_any w.heap.size (endS S M L) F (.slice (some ⟨wr.heap.size, 0, none⟩) 2 2) [255, 255] _ (hdr.kept hk8 (by simp)) (Reads2.built wr 3 #[.int .i64 255, .int .i64 255] F hdr.lt)
                (by intro x hx; simp at hx; subst hx; exact ⟨by omega, by omega⟩) (by rw [HEND.out.2.1]; decide)
              have HT := Lib.hid (And.intro htx (And.intro hbr hk8))
              clear htx hbr hk8 hdr hlen9
              go_wp2_with fail
              refine hcr.mono ?_
              rintro e w4 ⟨rfl, hd4, hk4⟩
              obtain ⟨hpg2, hmost2⟩ := end2_pages S M L HEND.out.2.1
              have hre := restore_any w.heap.size (crashS (endS S M L) [255, 255]) F w4 hd4 (by rw [hmost2, HEND.out.2.2.1]; decide)
              have hmm := hd4.mem
              have HK4 := Lib.hid ((HT.out.2.2.mono (by simp)).trans hk4)
              have HPG := Lib.hid hpg2
              clear hd4 hk4 hcr hpg2 hmost2
              go_wp2_with fail
              refine hre.mono ?_
              rintro e wD ⟨rfl, hdD, hkD⟩
              have hkF : Kept F wr wD := HK4.out.trans (hkD.mono (by simpa using .inl hmm))
              have hdD' : DevAt wD w.heap.size (end2S S M L) F := hdD
              have htD := HT.out.1.kept hkF (fun i hi => .inl (HB.out.1.lt i hi))
              have hgD : Goes [w.heap.size] w1 F wD := (HB.out.2.1.trans (HB.out.1.goes HT.out.2.1).2).trans (goes_of_kept hkF (fun k hk => hk))
              have hbD : Below w.heap.size w wD := At.below (s := end2S S M L) ⟨F, hdD', hgD⟩ H1.out
              have HD := Lib.hid (And.intro hdD' (And.intro htD hbD))
              clear hdD hkD hkF hdD' htD hgD hbD hre HK4 hmm
              go_wp2_with fail
              obtain ⟨wo5, rfl⟩ : ∃ wo5 : World, wo5 = wr := ⟨_, rfl⟩
              go_loopw [19] (fun i wr => ∃ j : Nat, j ≤ p ∧ i = .int .i64 j ∧ Below wD.heap.size wD wr) (fun i _ => p - (RowKit.intOf i).toNat)
              case atStart => exact ⟨0, Nat.zero_le _, rfl, Below.refl _ _⟩
              case round =>
                obtain ⟨r, hr, rfl, hbr⟩ := hrel
                by_cases hrp : r < p
                · have hrp' : (r : Int) < (p : Int) := by omega
                  have hrd := read_any w.heap.size (end2S S M L) F r wr (HD.out.1.goes hbr).1
                  have hro := read_of (s := end2S S M L) (n := r) rfl (by rw [HPG.out]; exact HEND.out.2.2.2 r (by rw [MM.out.1]; exact hrp))
                  rw [hro.1, hro.2] at hrd
                  have hat : ((List.range p).map (E S M L))[r]? = some (E S M L r) := by rw [List.getElem?_map, List.getElem?_range hrp]; rfl
                  have HAT := Lib.hid hat
                  have HR := Lib.hid hbr
                  generalize E S M L r = X at *
                  clear hro hat hbr
                  go_wp2_with fail
                  refine hrd.mono ?_
                  rintro e w8 ⟨rfl, hb8⟩
                  have htx := (HD.out.2.1.kept (F := []) (Kept.of_below HR.out) (by simp)).kept (F := []) (Kept.of_below hb8) (by simp)
                  obtain ⟨A7, c7, he, hcells⟩ := htx.form
                  obtain ⟨g, hg, hcg⟩ := hcells r X HAT.out
                  simp only [Value.slice.injEq] at he
                  obtain ⟨rfl, -, -⟩ := he
                  subst hg
                  have HB8 := Lib.hid (HR.out.trans (hb8.mono HR.out.size))
                  clear htx hcells hb8 hrd
                  go_wp2
                  go_roundw
                  case rel => exact ⟨r + 1, by omega, by go_num, HB8.out⟩
                  case measure => simp [RowKit.intOf]; omega
                · obtain rfl : r = p := by omega
                  have HR := Lib.hid hbr
                  clear hbr
                  go_wp2_with fail
                  refine (alive_walk _).mono ?_
                  rintro e w8 ⟨rfl, hb8⟩
                  have hbz : Below wD.heap.size wD w8 := HR.out.trans (hb8.mono HR.out.size)
                  have hfin : Below w.heap.size w w8 := HD.out.2.2.trans (hbz.mono HD.out.2.2.size)
                  have HFIN := Lib.hid hfin
                  clear hb8 hbz hfin
                  go_wp2
                  go_ret
                  exact ⟨rfl, HFIN.out⟩

theorem walk (w : World) (v1 : Value) (S : List Nat) (r1 : Reads1 w w.heap.size v1 (S.map fun b : Nat => Value.int .u8 (b : Int))) (i1 : ∀ x ∈ S, x < 256) (_l1 : S.length ≤ 9223372036854775807)
    (v2 : Value) (M : List Nat) (r2 : Reads1 w w.heap.size v2 (M.map fun b : Nat => Value.int .u8 (b : Int))) (i2 : ∀ x ∈ M, x < 256) (_l2 : M.length ≤ 9223372036854775807)
    (v3 : Value) (L : List Int) (r3 : Reads1 w w.heap.size v3 (L.map (Value.int .i64))) (i3 : ∀ x ∈ L, IsInt x) (_l3 : L.length ≤ 9223372036854775807) :
    Calls Try.prog 4 #[v1, v2, v3] w fun e w' => e = .returned (.bool true) ∧ Below w.heap.size w w' := by
  obtain ⟨A1, c1, rfl, g1⟩ := given r1
  obtain ⟨A2, c2, rfl, g2⟩ := given r2
  by_cases h : 8 < S.length ∨ S.length = 0 ∨ 40 < M.length ∨ 60 < L.length
  · obtain ⟨A3, c3, rfl, _⟩ := r3
    rw [List.length_map]
    exact walk_out w A1 A2 A3 _ c1 _ c2 _ c3 h
  · exact walk_whole w A1 A2 c1 c2 v3 S M L g1 g2 r3 i1 i2 i3 (by omega) (by omega) (by omega) (by omega)

set_option maxRecDepth 100000 in
theorem lifted (os : Os) (started : os.Started) (H : Type) (enc : TypeId × Value → H) :
    ReturnsInHanded {} Try.checked os 4 .any (Rows.devKeepsSpec.pre6 enc Try.prog Try.f4 Rows.devKeepsRow.domain false) (Rows.devKeepsSpec.post enc Try.prog Try.f4 false true false false) := by
  refine returnsInHanded_of_change (C := Try.checked) own started (by kernel_rfl) Try.func4
    (ChangeSpec.witness6 (enc := enc) (C := Try.checked) false ⟨#[], #[.slice none 0 0, .slice none 0 0, .slice none 0 0], []⟩ 8 (by kernel_rfl) (by kernel_rfl) (by kernel_rfl) (by kernel_rfl)) ?_
  intro W base args ds gs before hval0 hW hcnd _
  have hval : ∀ (j : Nat) t v, Try.f4.params[j]? = some t → args[j]? = some v → Value.okWide Try.prog W .any base t v := hval0
  have hW' := hW
  obtain ⟨p, q, hA0, hV, rfl, hfz, hnd⟩ := hW
  have hA : DataW.TrodAll enc Try.prog W 0 (fun _ => true) true Try.f4.params.toList args.toList ds p := hA0
  rw [Try.params4] at hA hval
  obtain ⟨v0, vs0, d0, ds0, p0, q0, hargs, rfl, rfl, h0, r00⟩ := trodAll_cons hA
  obtain ⟨v1, vs1, d1, ds1, p1, q1, rfl, rfl, rfl, h1, r01⟩ := trodAll_cons r00
  obtain ⟨v2, vs2, d2, ds2, p2, q2, rfl, rfl, rfl, h2, r02⟩ := trodAll_cons r01
  obtain ⟨rfl, rfl, rfl⟩ := trodAll_nil r02
  obtain rfl : args = #[v0, v1, v2] := by cases args; simp_all
  obtain ⟨rfl, rfl⟩ := trodVars_none hV
  obtain ⟨l0, r0, i0, m0⟩ := reads_bytes (hval 0 35 v0 rfl rfl) h0
  obtain ⟨l1, r1, i1, m1⟩ := reads_bytes (hval 1 35 v1 rfl rfl) h1
  obtain ⟨l2, r2, i2, m2⟩ := reads_ints (hval 2 36 v2 rfl rfl) h2
  clear hA0 hval0
  refine (walk W v0 l0 r0 i0 m0 v1 l1 r1 i1 m1 v2 l2 r2 i2 m2).mono fun e W' ⟨he, hb⟩ => ?_
  subst he
  exact ⟨_, rfl, law_post hW' rfl rfl (by kernel_rfl) (by kernel_rfl) hb⟩

theorem said : Rows.DevKeepsSaid :=
  OpenClaim.holds_of_wide 4 Try.f4 rfl rfl rfl rfl rfl rfl rfl ⟨rfl, rfl, rfl, rfl, rfl⟩ rfl rfl rfl rfl rfl (by kernel_rfl) Try.func4 (by kernel_rfl)
    (of_decide_eq_true (by kernel_rfl)) (by unfold Func.isWrapper; first | (rw [if_pos (by decide +kernel)]; kernel_rfl) | (rw [if_neg (by decide +kernel)]; exact ⟨rfl, rfl⟩))
    (fun os started H enc _ => lifted os started H enc)

end Go.Proofs.Ytlmhhoijbebcbaa.devKeeps
