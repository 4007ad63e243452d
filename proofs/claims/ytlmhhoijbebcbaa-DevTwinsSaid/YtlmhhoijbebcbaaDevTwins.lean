/-
  DevTwins: a twin is the same in all; what happens to the one does not to the other: for every int, byte and []int. Conditions: none but those of the given statement.
-/
import Derived.Test.YtlmhhoijbebcbaaG1
import Derived.Test.YtlmhhoijbebcbaaFrameS
import Derived.Deep.RegionHeld3
namespace Go.Proofs.Ytlmhhoijbebcbaa.devTwins
open Go.ChangeShapes Go.WideShapes Go.ChangeAt Go.RowKit Go.Lib

theorem roomed_le {l : List (Int × ByteArray)} {cap : Nat} (h : cap ≤ 16 + 2 * l.length) : roomed l cap ≤ 16 + 2 * (l.length + 1) := by
  unfold roomed
  split
  · omega
  · omega

/-- The device behind some writes. -/
structure Few (n k : Nat) (s : DevS) : Prop where
  idle : Idle s
  len : s.pages.length = n
  most : s.most = 30
  line : s.line.length ≤ k
  cap : s.cap ≤ 16 + 2 * s.line.length

theorem Few.write {n k : Nat} {s : DevS} (h : Few n k s) (m : Int) (d : ByteArray) : Few n (k + 1) (writeS s m d) := by
  have e : writeS s m d = wroteS s m d ∨ writeS s m d = s := by
    unfold writeS
    rw [if_pos h.idle.on, h.idle.pow]
    split
    · exact .inl rfl
    · exact .inr rfl
  rcases e with e | e
  · rw [e]
    refine ⟨⟨h.idle.on, h.idle.fuse⟩, by simp [wroteS, h.len], h.most, by simp [wroteS]; exact h.line, ?_⟩
    have := roomed_le h.cap
    simpa [wroteS] using this
  · rw [e]
    exact ⟨h.idle, h.len, h.most, by have := h.line; omega, h.cap⟩
theorem Few.read {n k : Nat} {s : DevS} (h : Few n k s) {j : Nat} (hj : j < n) : readB s j = s.pages.getD j ByteArray.empty ∧ readE s j = 0 := by
  have hl := h.len
  unfold readB readE
  rw [if_pos ⟨h.idle.on, by omega⟩, if_pos h.idle.on, if_pos ⟨by omega, by omega⟩, Int.toNat_natCast, List.getD]
  exact ⟨rfl, rfl⟩
theorem growAS_line (s : DevS) (m : Int) : (growAS s m).line = s.line := by
  have h : (powS s).line = s.line := by unfold powS; split; (split <;> rfl); rfl
  unfold growAS growS
  split
  · split
    · exact h
    · exact h
  · exact h
theorem grown_few (n : Nat) (hn : n ≤ 30) : growAE (newS 30) n = 0 ∧ growAS (newS 30) n = longer (newS 30) n := by
  rw [((newS_idle 30).grow n).1, ((newS_idle 30).grow n).2]
  have e : growE (newS 30) n = 0 := by
    unfold growE
    rw [if_neg (by show ¬ (n : Int) < 0; omega), if_neg (by show ¬ (n : Int) > 30; omega)]
  unfold growS
  rw [e]
  exact ⟨rfl, rfl⟩

/-- Where the writes stand. -/
def At (w1 : World) (p n k : Nat) (wr : World) : Prop := ∃ s F, Few n k s ∧ DevAt wr p s F ∧ Goes [p] w1 F wr

set_option maxRecDepth 1000000 in
set_option maxHeartbeats 800000 in
theorem walk_out (w : World) (n : Int) (b : Nat) (A : Option Addr) (m c : Nat) (h : n < 1 ∨ 20 < n ∨ 40 < m) : Calls Try.prog 6 #[.int .i64 n, .int .u8 b, .slice A m c] w fun e w' => e = .returned (.bool true) ∧ Below w.heap.size w w' := by
  by_cases h1 : n < 1
  · clear h
    go_enter Try.func6, Try.ntmps6
    go_wp2_with (go_at_call 13; refine (alive_walk _).mono ?_; rintro e w2 ⟨rfl, hb2⟩)
    go_ret
    exact ⟨rfl, hb2⟩
  · by_cases h2 : 20 < n
    · clear h
      go_enter Try.func6, Try.ntmps6
      go_wp2_with (go_at_call 13; refine (alive_walk _).mono ?_; rintro e w2 ⟨rfl, hb2⟩)
      go_ret
      exact ⟨rfl, hb2⟩
    · have h4 : (40 : Int) < m := by omega
      clear h
      go_enter Try.func6, Try.ntmps6
      go_wp2_with (go_at_call 13; refine (alive_walk _).mono ?_; rintro e w2 ⟨rfl, hb2⟩)
      go_ret
      exact ⟨rfl, hb2⟩

set_option maxRecDepth 1000000 in
set_option maxHeartbeats 3000000 in
theorem walk_whole (w : World) (n b : Nat) (v : Value) (l : List Int) (hr : Reads1 w w.heap.size v (l.map (Value.int .i64))) (h1 : 1 ≤ n) (h2 : n ≤ 20) (hb : b < 256) (h4 : l.length ≤ 40) :
    Calls Try.prog 6 #[.int .i64 n, .int .u8 b, v] w fun e w' => e = .returned (.bool true) ∧ Below w.heap.size w w' := by
  have hform : ∃ A c, v = .slice A l.length c := by obtain ⟨A, c, rfl, _⟩ := hr; exact ⟨A, c, by simp⟩
  obtain ⟨A, c, rfl⟩ := hform
  have HR := Lib.hid hr
  have b1 : ((n : Int) < 1) = False := by simp; omega
  have b2 : ((20 : Int) < n) = False := by simp; omega
  have b4 : ((40 : Int) < l.length) = False := by simp; omega
  clear hr
  go_enter Try.func6, Try.ntmps6
  go_wp2_with fail
  refine (new_ok 30 w (by omega) (by omega)).mono ?_
  rintro e w1 ⟨rfl, hd, hb1⟩
  have hgr := grow_any w.heap.size (newS 30) _ n w1 hd
  rw [(grown_few n (by omega)).1, (grown_few n (by omega)).2] at hgr
  have H1 := Lib.hid hb1
  clear hd hb1
  go_wp2_with fail
  refine hgr.mono ?_
  rintro e w2 ⟨rfl, F2, hd, hg2⟩
  have hst : At w1 w.heap.size n 0 w2 := ⟨_, F2, ⟨longer_idle (newS_idle 30) n, by simp [longer, newS], rfl, Nat.le_refl _, Nat.zero_le _⟩, hd, hg2⟩
  have HST := Lib.hid hst
  clear hd hg2 hgr hst
  go_wp2_with fail
  go_loopw [9] (fun i wr => ∃ k : Nat, k ≤ l.length ∧ i = .int .i64 k ∧ At w1 w.heap.size n k wr) (fun i _ => l.length - (RowKit.intOf i).toNat)
  case atStart => exact ⟨0, Nat.zero_le _, rfl, HST.out⟩
  case round =>
    clear HST
    obtain ⟨k, hk, rfl, s, F, hf, hd, hg⟩ := hrel
    have hF : ∀ i ∈ F, w.heap.size ≤ i := by
      intro i hi
      rcases hg.2 i hi with h | h
      · simp at h; omega
      · exact Nat.le_trans H1.out.size h
    have hbw : Below w.heap.size w wr := H1.out.trans (hg.1.below H1.out.size (by simp))
    by_cases hlt : k < l.length
    · obtain ⟨A', c', hv, hcell⟩ := HR.out.below hbw
      simp only [List.length_map, Value.slice.injEq, true_and] at hv hcell
      obtain ⟨rfl, rfl⟩ := hv
      obtain ⟨b0, off, rfl, hbb, hcc⟩ := hcell (by omega)
      have hck : wr.cell? ⟨b0, off + k, none⟩ = some (.int .i64 l[k]) := hcc k _ (by simp [hlt])
      have hlt' : (k : Int) < (l.length : Int) := by omega
      have hbs : b0 < wr.heap.size := Nat.lt_of_lt_of_le hbb hbw.size
      have hbF : b0 ∉ F := fun h => by have := hF b0 h; omega
      generalize l[k] = x at *
      have hwr : ∀ w4, Below wr.drew.heap.size wr.drew w4 → Calls Try.prog 15 #[.pointer (some ⟨w.heap.size, 0, none⟩), .int .i64 x, .string (filledB b k)] w4 (DevTo w.heap.size (writeS s x (filledB b k)) (.int .i64 (writeE s x (filledB b k))) F w4) := by
        intro w4 h
        exact write_any w.heap.size s F x (filledB b k) w4 ((hd.drew).goes h).1 (by have := hf.cap; have := hf.line; omega)
      have HWR := Lib.hid hwr
      have HD := Lib.hid (And.intro hf (And.intro hd hg))
      clear hcc hcell hF hbw hwr hf hd hg
      go_wp2_with fail
      go_region_held3 (fun w' => w'.cell? ⟨b0, off + k, none⟩ = some (.int .i64 x)) (first | exact hck | exact hck2 | exact hck3) (first
        | (go_at_call 22; ((with_reducible refine (filledB_any b k _ hb).mono ?_)); rintro e w4 ⟨rfl, hb4⟩; have hck2 := (hb4.cell (p := ⟨b0, off + k, none⟩) hbs).trans hck)
        | (go_at_call 15; ((with_reducible refine (HWR.out _ hb4).mono ?_)); rintro e w5 ⟨rfl, F5, hd5, hg5⟩; have hck3 := (hg5.1.cell (p := ⟨b0, off + k, none⟩) (Nat.lt_of_lt_of_le hbs hb4.size) hbF).trans hck2))
      have H5 : Hid (At w1 w.heap.size n (k + 1) w5) := by
        obtain ⟨hf, hd, hg⟩ := HD.out
        exact ⟨_, F5, hf.write x (filledB b k), hd5, ((hg.trans (goes_of_kept ((Kept.refl [] wr).drew) (by simp))).trans ((hd.drew).goes hb4).2).trans hg5⟩
      clear hd5 hg5 hb4 hck hck2 hck3
      go_wp2
      go_roundw
      case rel => exact ⟨k + 1, by omega, by go_num, H5.out⟩
      case measure => simp [RowKit.intOf]; omega
    · obtain rfl : k = l.length := by omega
      have htw := twin_any w.heap.size s F wr hd (by have := hf.line; omega)
      have hFlt := hd.lt
      have HD := Lib.hid (And.intro hf (And.intro hg (And.intro hF (And.intro hbw hFlt))))
      have hge : ((l.length : Int) < (l.length : Int)) = False := by simp
      clear hd hf hg hF hbw HR hFlt
      go_wp2_with fail
      refine htw.mono ?_
      rintro e wB ⟨q, Q, cap', rfl, hd, hq, hQ, hk, hcap⟩
      have hlen := len_any q { s with cap := cap' } Q wB hq
      have hun1 := unsynced_any q { s with cap := cap' } Q wB hq
      have hun2 := unsynced_any w.heap.size s F wB hd
      have e1 : ({ s with cap := cap' } : DevS).pages.length = n := HD.out.1.len
      rw [e1] at hlen
      have hFB := hd.lt
      have hQB := hq.lt
      have hgB : Below w.heap.size w wB := HD.out.2.2.2.1.trans (hk.below HD.out.2.2.2.1.size HD.out.2.2.1)
      have hdis : ∀ i ∈ F, i ∉ Q := fun i hi hi2 => by have := HD.out.2.2.2.2 i hi; have := hQ i hi2; omega
      have HB := Lib.hid (And.intro hd (And.intro hq (And.intro hcap (And.intro hFB (And.intro hQB (And.intro hgB (And.intro hdis hQ)))))))
      have hsl : s.line.length ≤ 40 := by have := HD.out.1.line; omega
      generalize hsL : s.line.length = sl at *
      clear hd hq hQ hk hcap htw hFB hQB hgB hdis e1
      go_wp2_with (first
        | (go_at_call 17; ((with_reducible refine hlen.mono ?_)); rintro e w' ⟨rfl, rfl⟩)
        | (go_at_call 18; ((with_reducible refine hun1.mono ?_)); rintro e w' ⟨rfl, rfl⟩)
        | (go_at_call 18; ((with_reducible refine hun2.mono ?_)); rintro e w' ⟨rfl, rfl⟩))
      clear hlen hun1 hun2
      go_loopw [11, 12] (fun u i wr => ∃ k : Nat, k ≤ n ∧ i = .int .i64 k ∧ Texts wr wB.heap.size u (s.pages.take k) ∧ Below wB.heap.size wB wr) (fun _ i _ => n - (RowKit.intOf i).toNat)
      case atStart => exact ⟨0, Nat.zero_le _, rfl, Texts.nil_ _ _, Below.refl _ _⟩
      case round =>
        obtain ⟨k, hk, rfl, htx, hbr⟩ := hrel
        have hnp : s.pages.length = n := HD.out.1.len
        by_cases hlt : k < n
        · have hlt' : (k : Int) < (n : Int) := by omega
          have hr1 := Few.read HD.out.1 hlt
          have hrd := read_any w.heap.size s F k _ (HB.out.1.goes hbr).1
          rw [hr1.1, hr1.2] at hrd
          have hr2 : ∀ w', Below wB.heap.size wB w' → Calls Try.prog 9 #[.pointer (some ⟨q, 0, none⟩), .int .i64 k] w' fun e w2 => e = .returned (.tuple #[.string (s.pages.getD k ByteArray.empty), .int .i64 0]) ∧ Below w'.heap.size w' w2 := by
            intro w' h
            have := read_any q { s with cap := cap' } Q k w' (HB.out.2.1.goes h).1
            rw [show readB { s with cap := cap' } k = readB s k from rfl, show readE { s with cap := cap' } k = readE s k from rfl, hr1.1, hr1.2] at this
            exact this
          have HR2 := Lib.hid hr2
          have hnext : s.pages.take k ++ [s.pages.getD k ByteArray.empty] = s.pages.take (k + 1) := by
            rw [List.take_succ_eq_append_getElem (by omega), List.getD, List.getElem?_eq_getElem (by omega)]
            rfl
          have HN := Lib.hid hnext
          have hll : (s.pages.take k).length ≤ 1000000 := by rw [List.length_take]; omega
          have HT := Lib.hid (And.intro htx hbr)
          generalize s.pages.getD k ByteArray.empty = x at *
          clear hr1 hr2 hnext htx hbr hnp
          go_wp2_with fail
          refine hrd.mono ?_
          rintro e w5 ⟨rfl, hb5⟩
          have hbB5 : Below wB.heap.size wB w5 := HT.out.2.trans (hb5.mono HT.out.2.size)
          have hrd2 := HR2.out w5 hbB5
          have HT5 := Lib.hid (And.intro (HT.out.1.kept (F := []) (Kept.of_below hb5) (by simp)) hbB5)
          clear hb5 hbB5 hrd
          go_wp2_with fail
          refine hrd2.mono ?_
          rintro e w6 ⟨rfl, hb6⟩
          have htx6 := HT5.out.1.kept (F := []) (Kept.of_below hb6) (by simp)
          have hbB6 : Below wB.heap.size wB w6 := HT5.out.2.trans (hb6.mono HT5.out.2.size)
          have hs6 := hbB6.size
          have HB6 := Lib.hid hbB6
          clear hb6 hbB6 hrd2
          go_wp2_with (at_builtin; refine append_text rfl _ _ rfl wB.heap.size w6 u11 _ rfl htx6 x rfl hll hs6 ?_; intro v1 w7 q1 q2)
          go_roundw
          case rel => exact ⟨k + 1, by omega, by go_num, by rw [← HN.out]; exact q1, HB6.out.trans q2⟩
          case measure => simp [RowKit.intOf]; omega
        · obtain rfl : k = n := by omega
          have hge2 : ((k : Int) < (k : Int)) = False := by simp
          rw [← hnp, List.take_length] at htx
          obtain ⟨A2, c2, rfl, hcells⟩ := htx.form
          rw [hnp] at htx ⊢
          obtain ⟨b9, hb9, hb9l⟩ : ∃ b9 : Nat, ((b : Int) + 9) % 256 = (b9 : Int) ∧ b9 < 256 := ⟨(b + 9) % 256, by omega, by omega⟩
          have HX := Lib.hid (And.intro htx (And.intro hbr (And.intro hnp hcells)))
          clear htx hbr hnp hcells
          go_wp2_with fail
          refine (filledB_any b9 7 _ hb9l).mono ?_
          rintro e w4 ⟨rfl, hb4⟩
          generalize hdd : filledB b9 7 = dd at *
          have hdz : dd.size = 256 := by rw [← hdd]; exact filledB_size _ _
          obtain ⟨hq4, hg4⟩ := (HB.out.2.1.goes (HX.out.2.1)).1.goes hb4
          have hi0 : Idle ({ s with cap := cap' } : DevS) := ⟨HD.out.1.idle.on, HD.out.1.idle.fuse⟩
          have hwr := write_any q { s with cap := cap' } Q 0 dd w4 hq4 (by have := HB.out.2.2.1; show cap' ≤ _; omega)
          rw [(hi0.write (n := 0) (d := dd) (by omega) (by show (0 : Int) < s.pages.length; rw [HX.out.2.2.1]; omega) hdz).1, (hi0.write (n := 0) (d := dd) (by omega) (by show (0 : Int) < s.pages.length; rw [HX.out.2.2.1]; omega) hdz).2.1] at hwr
          have HG4 := Lib.hid hg4
          clear hb4 hdd hq4 hg4 hi0
          go_wp2_with fail
          refine hwr.mono ?_
          rintro e w5 ⟨rfl, Q5, hq5, hg5⟩
          have hgr := grow_any q _ Q5 ((k : Int) + 1) w5 hq5
          have hln : (growAS (wroteS { s with cap := cap' } 0 dd) ((k : Int) + 1)).line.length ≤ 41 := by
            rw [growAS_line]
            simp [wroteS]
            omega
          generalize growAS (wroteS { s with cap := cap' } 0 dd) ((k : Int) + 1) = s6 at *
          generalize growAE (wroteS { s with cap := cap' } 0 dd) ((k : Int) + 1) = e6 at *
          have HG5 := Lib.hid (HG4.out.trans hg5)
          clear hq5 hg5 hwr HG4
          go_wp2_with fail
          refine hgr.mono ?_
          rintro e w6 ⟨rfl, Q6, hq6, hg6⟩
          have hcr := crash_any q s6 Q6 (.slice none 0 0) [] w6 hq6 ⟨none, 0, rfl, fun h => absurd h (by simp)⟩ (by simp) (by omega)
          have HG6 := Lib.hid (HG5.out.trans hg6)
          clear hq6 hg6 hgr HG5
          go_wp2_with fail
          refine hcr.mono ?_
          rintro e wD ⟨rfl, hq7, hk7⟩
          have hoff : (crashS s6 []).on = false := (settled_flags (keepOf []) _ 0 { s6 with on := false, fuse := -1 }).1
          generalize crashS s6 [] = s7 at *
          have hg7 : Goes Q wr Q6 wD := HG6.out.trans (goes_of_kept hk7 (fun k hk => hk))
          have hQr : ∀ i ∈ Q, i < wB.heap.size := HB.out.2.2.2.2.1
          have hdD : DevAt wD w.heap.size s F := ((HB.out.1.goes HX.out.2.1).1).kept hg7.1 HB.out.2.2.2.2.2.2.1
          have htD := HX.out.1.kept hg7.1 (fun i hi => .inl (hQr i hi))
          have hbD : Below w.heap.size w wD := (HB.out.2.2.2.2.2.1.trans (HX.out.2.1.mono HB.out.2.2.2.2.2.1.size)).trans (hg7.1.below (by have := HB.out.2.2.2.2.2.1.size; have := HX.out.2.1.size; omega) (fun i hi => by have := HB.out.2.2.2.2.2.2.2 i hi; have := HD.out.2.2.2.1.size; omega))
          have HZ := Lib.hid (And.intro hdD (And.intro htD (And.intro hbD (And.intro hq7 hoff))))
          have hnp := HX.out.2.2.1
          clear hq7 hk7 hoff hg7 hQr hdD htD hbD hcr HG6 hln HB HX
          go_wp2_with fail
          go_loopw [17] (fun i wr => ∃ j : Nat, j ≤ k ∧ i = .int .i64 j ∧ Below wD.heap.size wD wr) (fun i _ => k - (RowKit.intOf i).toNat)
          case atStart => exact ⟨0, Nat.zero_le _, rfl, Below.refl _ _⟩
          case round =>
            obtain ⟨j, hj, rfl, hbr⟩ := hrel
            by_cases hlt : j < k
            · have hlt' : (j : Int) < (k : Int) := by omega
              have hr1 := Few.read HD.out.1 hlt
              have hrd := read_any w.heap.size s F j _ (HZ.out.1.goes hbr).1
              rw [hr1.1, hr1.2] at hrd
              have htx : Texts wr wB.heap.size (.slice A2 k c2) s.pages := HZ.out.2.1.kept (F := []) (Kept.of_below hbr) (by simp)
              have HT := Lib.hid (And.intro htx hbr)
              have hxj : s.pages[j]? = some (s.pages.getD j ByteArray.empty) := by rw [List.getD, List.getElem?_eq_getElem (by omega)]; rfl
              generalize s.pages.getD j ByteArray.empty = x at *
              have HXJ := Lib.hid hxj
              clear hr1 hbr htx hxj
              go_wp2_with fail
              refine hrd.mono ?_
              rintro e w8 ⟨rfl, hb8⟩
              have htx := HT.out.1.kept (F := []) (Kept.of_below hb8) (by simp)
              obtain ⟨A3, c3, he, hcells⟩ := htx.form
              obtain ⟨g, hg, hcg⟩ := hcells j x HXJ.out
              simp only [Value.slice.injEq] at he
              obtain ⟨rfl, -, -⟩ := he
              subst hg
              have HB8 := Lib.hid (HT.out.2.trans (hb8.mono HT.out.2.size))
              clear htx hcells hb8 hrd
              go_wp2
              go_roundw
              case rel => exact ⟨j + 1, by omega, by go_num, HB8.out⟩
              case measure => simp [RowKit.intOf]; omega
            · obtain rfl : j = k := by omega
              have hge3 : ((j : Int) < (j : Int)) = False := by simp
              have HR := Lib.hid hbr
              clear hbr
              go_wp2_with fail
              refine (alive_walk _).mono ?_
              rintro e w8 ⟨rfl, hb8⟩
              have hbz : Below wD.heap.size wD w8 := HR.out.trans (hb8.mono HR.out.size)
              have hd8 := (HZ.out.1.goes hbz).1
              have hq8 := (HZ.out.2.2.2.1.goes hbz).1
              have hon := on_any w.heap.size s F w8 hd8
              rw [HD.out.1.idle.on] at hon
              have hon2 := on_any q s7 Q6 w8 hq8
              rw [HZ.out.2.2.2.2] at hon2
              have hle := len_any w.heap.size s F w8 hd8
              rw [hnp] at hle
              have hfin : Below w.heap.size w w8 := HZ.out.2.2.1.trans (hbz.mono HZ.out.2.2.1.size)
              have HFIN := Lib.hid hfin
              clear hb8 hbz hd8 hq8 hfin
              go_wp2_with (first
                | (go_at_call 19; ((with_reducible refine hon.mono ?_)); rintro e w' ⟨rfl, rfl⟩)
                | (go_at_call 19; ((with_reducible refine hon2.mono ?_)); rintro e w' ⟨rfl, rfl⟩)
                | (go_at_call 17; ((with_reducible refine hle.mono ?_)); rintro e w' ⟨rfl, rfl⟩))
              go_ret
              exact ⟨rfl, HFIN.out⟩

theorem walk (w : World) (n : Int) (_hn : IsInt n) (b : Int) (hb : 0 ≤ b ∧ b ≤ 255) (v : Value) (l : List Int) (hr : Reads1 w w.heap.size v (l.map (Value.int .i64))) (_hint : ∀ x ∈ l, IsInt x) (_hl : l.length ≤ 9223372036854775807) :
    Calls Try.prog 6 #[.int .i64 n, .int .u8 b, v] w fun e w' => e = .returned (.bool true) ∧ Below w.heap.size w w' := by
  obtain ⟨q, rfl⟩ : ∃ q : Nat, b = q := ⟨b.toNat, by omega⟩
  by_cases h : n < 1 ∨ 20 < n ∨ 40 < l.length
  · obtain ⟨A, c, rfl, _⟩ := hr
    rw [List.length_map]
    exact walk_out w n q A l.length c h
  · obtain ⟨k, rfl⟩ : ∃ k : Nat, n = k := ⟨n.toNat, by omega⟩
    exact walk_whole w k q v l hr (by omega) (by omega) (by omega) (by omega)

set_option maxRecDepth 100000 in
theorem lifted (os : Os) (started : os.Started) (H : Type) (enc : TypeId × Value → H) :
    ReturnsInHanded {} Try.checked os 6 .any (Rows.devTwinsSpec.pre6 enc Try.prog Try.f6 Rows.devTwinsRow.domain false) (Rows.devTwinsSpec.post enc Try.prog Try.f6 false true false false) := by
  refine returnsInHanded_of_change (C := Try.checked) own started (by kernel_rfl) Try.func6
    (ChangeSpec.witness6 (enc := enc) (C := Try.checked) false ⟨#[], #[.int .i64 0, .int .u8 0, .slice none 0 0], []⟩ 8 (by kernel_rfl) (by kernel_rfl) (by kernel_rfl) (by kernel_rfl)) ?_
  intro W base args ds gs before hval0 hW hcnd _
  have hval : ∀ (j : Nat) t v, Try.f6.params[j]? = some t → args[j]? = some v → Value.okWide Try.prog W .any base t v := hval0
  have hW' := hW
  obtain ⟨p, q, hA0, hV, rfl, hfz, hnd⟩ := hW
  have hA : DataW.TrodAll enc Try.prog W 0 (fun _ => true) true Try.f6.params.toList args.toList ds p := hA0
  rw [Try.params6] at hA hval
  obtain ⟨v0, vs0, d0, ds0, p0, q0, hargs, rfl, rfl, h0, r00⟩ := trodAll_cons hA
  obtain ⟨v1, vs1, d1, ds1, p1, q1, rfl, rfl, rfl, h1, r01⟩ := trodAll_cons r00
  obtain ⟨v2, vs2, d2, ds2, p2, q2, rfl, rfl, rfl, h2, r02⟩ := trodAll_cons r01
  obtain ⟨rfl, rfl, rfl⟩ := trodAll_nil r02
  obtain rfl : args = #[v0, v1, v2] := by cases args; simp_all
  obtain ⟨rfl, rfl⟩ := trodVars_none hV
  obtain ⟨n0, rfl, rfl, rfl, w0⟩ := open_int Try.underlying3 (hval 0 3 v0 rfl rfl) h0
  obtain ⟨n1, rfl, rfl, rfl, w1⟩ := open_int Try.underlying5 (hval 1 5 v1 rfl rfl) h1
  obtain ⟨l2, r2, i2, m2⟩ := reads_ints (hval 2 36 v2 rfl rfl) h2
  clear hA0 hval0
  refine (walk W n0 (isInt_of_wf w0) n1 (u8_of_wf w1) v2 l2 r2 i2 m2).mono fun e W' ⟨he, hb⟩ => ?_
  subst he
  exact ⟨_, rfl, law_post hW' rfl rfl (by kernel_rfl) (by kernel_rfl) hb⟩

theorem said : Rows.DevTwinsSaid :=
  OpenClaim.holds_of_wide 6 Try.f6 rfl rfl rfl rfl rfl rfl rfl ⟨rfl, rfl, rfl, rfl, rfl⟩ rfl rfl rfl rfl rfl (by kernel_rfl) Try.func6 (by kernel_rfl)
    (of_decide_eq_true (by kernel_rfl)) (by unfold Func.isWrapper; first | (rw [if_pos (by decide +kernel)]; kernel_rfl) | (rw [if_neg (by decide +kernel)]; exact ⟨rfl, rfl⟩))
    (fun os started H enc _ => lifted os started H enc)

end Go.Proofs.Ytlmhhoijbebcbaa.devTwins
