/-
  Walks: Grow. Walks: the waiting of all writes ends (settle). Walks: Sync, Crash. A device's calls, each by one contract. strings.Clone by its contract. Plain mathematics for the layer of numbers: nothing of the program stands here. Walks over package num: Fix, Unfix. Walks over package num: the check sum. Plain mathematics: one byte that is changed changes the sum. A page's bytes, as lists: nothing of the program stands here.
-/
import Derived.Test.YtpoocbkligjgbaaGreatDoorMg3
import Derived.Deep.LoopGhost
import Derived.Shelf.Abstract
import Derived.Test.YtpoocbkligjgbaaGreatDoorMg1
import Derived.Test.YtpoocbkligjgbaaGreatDoorShelf
import Derived.Lib.Varint
import Derived.Lib.VarintMem
import Derived.Lib.Zigzag
import Derived.Lib.VarintBits
import Derived.Laws.Bits64b
import Derived.Laws.BitsAllLaws
namespace Go.Proofs.YtpoocbkligjgbaaGreatDoor
open Go.RowKit Go.Lib

/-- A page of noughts. -/
def blank : ByteArray := ⟨(List.replicate 256 (0 : UInt8)).toArray⟩
theorem blank_size : blank.size = 256 := by
  show (List.replicate 256 (0 : UInt8)).toArray.size = 256
  rw [List.size_toArray, List.length_replicate]

/-- A device with k new pages. -/
def longer (s : DevS) (k : Nat) : DevS := { s with pages := s.pages ++ List.replicate k blank, synced := s.synced ++ List.replicate k blank }
theorem longer_ok {s : DevS} (h : DevOK s) {k : Nat} (hk : s.pages.length + k ≤ 3000) : DevOK (longer s k) := by
  refine ⟨h.most, h.fuse, by simp [longer, h.len], by simpa [longer] using hk, fun x hx => ?_, fun x hx => ?_, fun x hx => ?_⟩
  · rcases List.mem_append.1 hx with h1 | h1
    · exact h.pages x h1
    · rw [List.eq_of_mem_replicate h1]; exact blank_size
  · rcases List.mem_append.1 hx with h1 | h1
    · exact h.synced x h1
    · rw [List.eq_of_mem_replicate h1]; exact blank_size
  · obtain ⟨a, b, c⟩ := h.line x hx
    refine ⟨a, ?_, c⟩
    simp [longer]
    omega
theorem longer_succ_pages (s : DevS) (k : Nat) : (longer s k).pages ++ [blank] = (longer s (k + 1)).pages := by simp [longer, List.replicate_succ']
theorem longer_succ_synced (s : DevS) (k : Nat) : (longer s k).synced ++ [blank] = (longer s (k + 1)).synced := by simp [longer, List.replicate_succ']
theorem Tryz.infoStr2 : (Tryz.prog.info? 9).map (fun i => (i.zero, i.size, i.bytes)) = some (some (.string ⟨#[]⟩), 1, 16) := by kernel_rfl
theorem longer_zero (s : DevS) : longer s 0 = s := by simp [longer]

theorem repeat_any (w : World) : Calls Tryz.prog 122 #[.string ⟨#[0]⟩, .int .i64 256] w fun e w' => e = .returned (.string blank) ∧ Below w.heap.size w w' := by
  have h := Tryz.strings_Repeat ⟨#[0]⟩ 256 w (by omega) (by show 1 * 256 ≤ _; omega)
  have e : Lib.repeatL (⟨#[0]⟩ : ByteArray).data.toList 256 = List.replicate 256 0 := by
    show Lib.repeatL [0] 256 = _
    decide +kernel
  rw [e] at h
  exact h

/-- What Grow tells, and leaves, where there is power. -/
def growE (s : DevS) (n : Int) : Int := if n < s.pages.length then 1 else if n > s.most then 10 else 0
def growS (s : DevS) (n : Int) : DevS := if growE s n = 0 then longer s (n.toNat - s.pages.length) else s

/-- What a call on a device comes to: it answers v, the device is s; nothing else that was there has turned. -/
def DevTo (p : Nat) (s : DevS) (v : Value) (F : List Nat) (w : World) (e : Ending) (w' : World) : Prop := e = .returned v ∧ ∃ F', DevAt w' p s F' ∧ Goes F w F' w'

theorem goes_of_kept {F G : List Nat} {w w' : World} (h : Kept G w w') (hs : ∀ k ∈ G, k ∈ F) : Goes F w F w' := ⟨h.mono (fun k hk => .inl (hs k hk)), fun _ hk => .inl hk⟩
theorem DevAt.goes {w w' : World} {p : Nat} {s : DevS} {F : List Nat} (h : DevAt w p s F) (hb : Below w.heap.size w w') : DevAt w' p s F ∧ Goes F w F w' :=
  ⟨h.kept (Kept.of_below (F := []) hb) (by simp), goes_of_kept (Kept.of_below (F := []) hb) (by simp)⟩


set_option maxHeartbeats 400000 in
theorem grow_off (p : Nat) (s : DevS) (F : List Nat) (n : Int) (w : World) (h : DevAt w p s F) (hoff : (powS s).on = false) :
    Calls Tryz.prog 80 #[.pointer (some ⟨p, 0, none⟩), .int .i64 n] w (DevTo p (powS s) (.int .i64 14) F w) := by
  have hp := powered_any p s F w h
  rw [hoff] at hp
  have hm := h.mem
  clear h hoff
  go_enter Tryz.func80, Tryz.ntmps80
  go_wp2_with fail
  refine hp.mono ?_
  rintro e w1 ⟨rfl, hd, hk⟩
  have HX := Lib.hid (And.intro hd hk)
  clear hd hk hp
  go_wp2
  go_ret
  exact ⟨rfl, F, HX.out.1, goes_of_kept HX.out.2 (by simpa using hm)⟩

set_option maxRecDepth 1000000 in
set_option maxHeartbeats 800000 in
theorem grow_on (p : Nat) (s : DevS) (F : List Nat) (n : Int) (w : World) (h : DevAt w p s F) (hon : (powS s).on = true) :
    Calls Tryz.prog 80 #[.pointer (some ⟨p, 0, none⟩), .int .i64 n] w (DevTo p (growS (powS s) n) (.int .i64 (growE (powS s) n)) F w) := by
  have hp := powered_any p s F w h
  rw [hon] at hp
  have hm := h.mem
  generalize powS s = s1 at *
  have HH := Lib.hid h
  clear h hon
  go_enter Tryz.func80, Tryz.ntmps80
  go_wp2_with fail
  refine hp.mono ?_
  rintro e w1 ⟨rfl, hd, hk⟩
  obtain ⟨A0, cc, c3, -⟩ := hd.pages
  obtain ⟨c0, -⟩ := hd.cells
  have HX := Lib.hid (And.intro hd hk)
  have hok := hd.ok
  have hmost := hok.most
  have hlen := hok.few
  have hg1 : Goes F w F w1 := goes_of_kept hk (by simpa using hm)
  have HG := Lib.hid hg1
  have hi1 := hd.inside
  generalize hL : s1.pages.length = L at *
  generalize hM : s1.most = M at *
  have HL := Lib.hid hL
  have HM := Lib.hid hM
  have HOK := Lib.hid hok
  clear hd hk hp hL hM hg1 hok
  by_cases h1 : n < L
  · have hx : growE s1 n = 1 := by unfold growE; rw [HL.out, if_pos h1]
    have hy : growS s1 n = s1 := by unfold growS; rw [hx]; rfl
    have HXY := Lib.hid (And.intro hx hy)
    clear hx hy
    go_wp2
    go_ret
    rw [HXY.out.1, HXY.out.2]
    exact ⟨rfl, F, HX.out.1, HG.out⟩
  · by_cases h2 : n > M
    · have hx : growE s1 n = 10 := by unfold growE; rw [HL.out, HM.out, if_neg h1, if_pos h2]
      have hy : growS s1 n = s1 := by unfold growS; rw [hx]; rfl
      have HXY := Lib.hid (And.intro hx hy)
      clear hx hy
      go_wp2
      go_ret
      rw [HXY.out.1, HXY.out.2]
      exact ⟨rfl, F, HX.out.1, HG.out⟩
    · have hx : growE s1 n = 0 := by unfold growE; rw [HL.out, HM.out, if_neg h1, if_neg h2]
      obtain ⟨m, hnm⟩ : ∃ m : Nat, n = (L : Int) + m := ⟨n.toNat - L, by omega⟩
      have hy : growS s1 n = longer s1 m := by unfold growS; rw [if_pos hx, HL.out]; congr 1; omega
      have HXY := Lib.hid (And.intro hx hy)
      subst hnm
      clear hx hy
      go_wp2_with (go_at_call 122; refine (repeat_any _).mono ?_; rintro e w2 ⟨rfl, hb2⟩)
      have hst : ∃ F', DevAt w2 p (longer s1 0) F' ∧ Goes F w F' w2 := by
        rw [longer_zero]
        obtain ⟨hd2, hg2⟩ := HX.out.1.goes hb2
        exact ⟨F, hd2, HG.out.trans hg2⟩
      have HST := Lib.hid hst
      clear hst hb2 c3 c0 hi1
      go_loopg [] m (fun k wr => ∃ (j : Nat) (F' : List Nat), j + k = m ∧ DevAt wr p (longer s1 j) F' ∧ Goes F w F' wr)
      case atStart =>
        obtain ⟨F', h5, h6⟩ := HST.out
        exact ⟨0, F', by omega, h5, h6⟩
      case round =>
        clear HST
        obtain ⟨j, F', hjk, hd, hgo⟩ := hrel
        have hdok := hd.ok
        obtain ⟨pv, sv, ch, hmem, hF⟩ := hd.mem_
        obtain ⟨A1, cc1, hpv, -⟩ := drow_form hmem.rowp
        have hlj : (longer s1 j).pages.length = L + j := by simp [longer, HL.out]
        have hsj : (longer s1 j).synced.length = L + j := by rw [hdok.len, hlj]
        obtain ⟨N, hN⟩ : ∃ N, L + j = N := ⟨_, rfl⟩
        rw [hN] at hlj hsj
        have hrp := hmem.rowp
        have hrs := hmem.rows
        rw [hlj] at hrp hpv
        rw [hsj] at hrs
        subst hpv
        have c3 : wr.cell? ⟨p, 3, none⟩ = some (.slice A1 N cc1) := hmem.line.has.cell 3
        have f3 := hmem.line.has.free 3
        have hin := hmem.line.has.inside
        have HN := Lib.hid (And.intro hN (And.intro hlj (And.intro hsj hF)))
        have HMEM := Lib.hid hmem
        have HD := Lib.hid (And.intro hd (And.intro hgo hdok))
        have HJ := Lib.hid hjk
        have hNb : N ≤ 3000 := by omega
        by_cases hk0 : gk = 0
        · have hge : ¬ (N : Int) < (L : Int) + (m : Int) := by omega
          have hj : j = m := by omega
          have HJM := Lib.hid hj
          clear hmem hd hgo hdok hF hlj hsj hN hrp hrs hj hjk
          go_wp2
          go_ret
          obtain ⟨a1, a2⟩ := HXY.out
          rw [a1, a2, ← HJM.out]
          exact ⟨rfl, F', HD.out.1, HD.out.2.1⟩
        · have hlt : (N : Int) < (L : Int) + (m : Int) := by omega
          clear hmem hd hgo hdok hF hlj hsj hN hjk
          go_wp2_with (first
            | (at_builtin; refine append_fresh rfl _ _ 53 9 (.string ⟨#[]⟩) 16 Tryz.underlying53 Tryz.infoStr2 rfl (by decide) rfl wr (.slice A1 N cc1) N _ rfl hrp (.string blank) rfl wr.heap.size rfl rfl (by omega) ?_
               intro v1 w3 q1 q2 q3
               obtain ⟨A2, cc2, rfl, -⟩ := drow_form q1
               have hkp : Kept (Value.slice A1 N cc1).ownBlock.toList wr w3 := Kept.of_grown q3 (fun k e => by simpa using e)
               have hh := HMEM.out.line.has.kept hkp (by simp; exact fun e => ((nodup_devBlocks.1 HMEM.out.nodup).1 p e).1 rfl)
               have z3 := hh.cell 3
               have z4 := hh.cell 4
               have y3 := hh.free 3
               have y4 := hh.free 4
               have hi3 := hh.inside
               simp [devCells] at z3 z4
               obtain ⟨hm3, hg3⟩ := HMEM.out.newPages ((longer s1 j).pages ++ [blank]) (by rw [List.length_append, HN.out.2.1, List.map_append]; exact q1) q2 q3
               have hrs3 := hm3.rows
               have HM3 := Lib.hid (And.intro hm3 hg3)
               have e3 : ({ longer s1 j with pages := (longer s1 j).pages ++ [blank] } : DevS).synced = (longer s1 j).synced := rfl
               rw [e3, HN.out.2.2.1] at hrs3
               clear hm3 hg3 hkp hh q1 q2 q3 e3)
            | (at_builtin; refine append_fresh rfl _ _ 53 9 (.string ⟨#[]⟩) 16 Tryz.underlying53 Tryz.infoStr2 rfl (by decide) rfl (w3.setCell ⟨p, 3, none⟩ (.slice A2 (N + 1) cc2)) sv N _ rfl hrs3 (.string blank) rfl w3.heap.size (by simp) rfl (by omega) ?_
               intro v2 w4 q1 q2 q3
               obtain ⟨A3, cc3, rfl, -⟩ := drow_form q1
               have hkp : Kept sv.ownBlock.toList (w3.setCell ⟨p, 3, none⟩ (.slice A2 (N + 1) cc2)) w4 := Kept.of_grown q3 (fun k e => by simpa using e)
               have hh := HM3.out.1.line.has.kept hkp (by simp; exact fun e => ((nodup_devBlocks.1 HM3.out.1.nodup).2.1 p e).1 rfl)
               have z3 := hh.cell 4
               have y3 := hh.free 4
               have hi4 := hh.inside
               simp [devCells] at z3
               have HM4 := Lib.hid (HM3.out.1.newSynced ((longer s1 j).synced ++ [blank]) (by rw [List.length_append, HN.out.2.2.1, List.map_append]; exact q1) q2 q3)
               clear hkp hh q1 q2 q3))
          go_roundg (gk - 1)
          case measure => omega
          case rel =>
            have hj1 : s1.pages.length + (j + 1) ≤ 3000 := by
              have := HJ.out
              rw [HL.out]
              omega
            obtain ⟨d1, d2⟩ := HM4.out
            have e4 : ({ ({ longer s1 j with pages := (longer s1 j).pages ++ [blank] } : DevS) with synced := (longer s1 j).synced ++ [blank] } : DevS) = longer s1 (j + 1) := by
              rw [longer_succ_pages, longer_succ_synced]
              rfl
            rw [e4] at d1
            have hF := HN.out.2.2.2
            refine ⟨j + 1, _, by have := HJ.out; omega, d1.at_ (longer_ok HOK.out hj1), HD.out.2.1.trans ?_⟩
            rw [hF]
            exact HM3.out.2.trans d2
end Go.Proofs.YtpoocbkligjgbaaGreatDoor

namespace Go.Proofs.YtpoocbkligjgbaaGreatDoor
open Go.RowKit Go.Lib


theorem DevAt.drewN {w : World} {p : Nat} {s : DevS} {F : List Nat} (h : DevAt w p s F) (n : Nat) : DevAt (w.drewN n) p s F := h.kept ((Kept.refl [] w).drewN n) (by simp)
theorem DevAt.drew {w : World} {p : Nat} {s : DevS} {F : List Nat} (h : DevAt w p s F) : DevAt w.drew p s F := h.kept ((Kept.refl [] w).drew) (by simp)




end Go.Proofs.YtpoocbkligjgbaaGreatDoor

namespace Go.Proofs.YtpoocbkligjgbaaGreatDoor
open Go.RowKit Go.Lib


/-- v is a slice that reads as the values xs, in a block that is none of F's. -/
def Reads2 (w : World) (F : List Nat) (v : Value) (xs : List Value) : Prop :=
  ∃ (A : Option Addr) (c : Nat), v = .slice A xs.length c ∧ (0 < xs.length → ∃ b off, A = some ⟨b, off, none⟩ ∧ b < w.heap.size ∧ b ∉ F ∧ ∀ (j : Nat) (u : Value), xs[j]? = some u → w.cell? ⟨b, off + j, none⟩ = some u)
theorem Reads2.kept {w w' : World} {F G : List Nat} {v : Value} {xs : List Value} (h : Reads2 w F v xs) (hk : Kept G w w') (hG : ∀ k ∈ G, k ∈ F ∨ w.heap.size ≤ k) : Reads2 w' F v xs := by
  obtain ⟨A, c, rfl, h⟩ := h
  refine ⟨A, c, rfl, fun hn => ?_⟩
  obtain ⟨b, off, rfl, h1, h2, h3⟩ := h hn
  refine ⟨b, off, rfl, Nat.lt_of_lt_of_le h1 hk.size, h2, fun j u hu => (hk.cell (p := ⟨b, off + j, none⟩) h1 (fun hb => ?_)).trans (h3 j u hu)⟩
  rcases hG b hb with h4 | h4
  · exact h2 h4
  · omega
theorem Reads1.off {w : World} {B : Nat} {F : List Nat} {v : Value} {xs : List Value} (h : Reads1 w B v xs) (hB : B ≤ w.heap.size) (hF : ∀ k ∈ F, B ≤ k) : Reads2 w F v xs := by
  obtain ⟨A, c, rfl, h⟩ := h
  refine ⟨A, c, rfl, fun hn => ?_⟩
  obtain ⟨b, off, rfl, h1, h3⟩ := h hn
  exact ⟨b, off, rfl, by omega, fun hb => by have := hF b hb; omega, h3⟩
theorem Reads2.built (w : World) (t : TypeId) (cs : Array Value) (F : List Nat) (hF : ∀ k ∈ F, k < w.heap.size) : Reads2 (w.alloc (.cells cs t)) F (.slice (some ⟨w.heap.size, 0, none⟩) cs.size cs.size) cs.toList := by
  refine ⟨some ⟨w.heap.size, 0, none⟩, cs.size, by simp, fun _ => ⟨w.heap.size, 0, rfl, by simp, fun hb => by have := hF _ hb; omega, fun j u hu => ?_⟩⟩
  rw [Nat.zero_add, (Has.made w t cs).cell j]
  simpa using hu








end Go.Proofs.YtpoocbkligjgbaaGreatDoor

namespace Go.Proofs.YtpoocbkligjgbaaGreatDoor
open Go.RowKit Go.Lib

def growAE (s : DevS) (n : Int) : Int := if (powS s).on = true then growE (powS s) n else 14
def growAS (s : DevS) (n : Int) : DevS := if (powS s).on = true then growS (powS s) n else powS s
theorem grow_any (p : Nat) (s : DevS) (F : List Nat) (n : Int) (w : World) (h : DevAt w p s F) :
    Calls Tryz.prog 80 #[.pointer (some ⟨p, 0, none⟩), .int .i64 n] w (DevTo p (growAS s n) (.int .i64 (growAE s n)) F w) := by
  unfold growAE growAS
  by_cases hon : (powS s).on = true
  · rw [if_pos hon, if_pos hon]
    exact grow_on p s F n w h hon
  · rw [if_neg hon, if_neg hon]
    exact grow_off p s F n w h (by simpa using hon)


/-- A device that has power, and no fuse. -/
structure Idle (s : DevS) : Prop where
  on : s.on = true
  fuse : s.fuse = -1
theorem Idle.pow {s : DevS} (h : Idle s) : powS s = s := by unfold powS; rw [if_pos h.on, if_pos h.fuse]
theorem Idle.grow {s : DevS} (h : Idle s) (n : Int) : growAE s n = growE s n ∧ growAS s n = growS s n := by
  unfold growAE growAS
  rw [h.pow, if_pos h.on, if_pos h.on]
  exact ⟨rfl, rfl⟩
theorem newS_idle (n : Int) : Idle (newS n) := ⟨rfl, rfl⟩
theorem longer_idle {s : DevS} (h : Idle s) (k : Nat) : Idle (longer s k) := ⟨h.on, h.fuse⟩

end Go.Proofs.YtpoocbkligjgbaaGreatDoor

namespace Go.Proofs.YtpoocbkligjgbaaGreatDoor
open Go.RowKit Go.Lib

set_option maxHeartbeats 400000 in
theorem tclone_any (s : ByteArray) (hs : s.size ≤ 281474976710656) (w : World) : Calls Tryz.prog 84 #[.string s] w fun e w' => e = .returned (.string s) ∧ Below w.heap.size w w' := by
  go_enter Tryz.func84, Tryz.ntmps84
  go_wp2_with (go_at_call 125; refine (Tryz.stringslite_Clone s _ hs).mono ?_; rintro e w' ⟨rfl, hb⟩)
  go_ret
  exact ⟨rfl, hb⟩

end Go.Proofs.YtpoocbkligjgbaaGreatDoor

namespace Go.Proofs.YtpoocbkligjgbaaGreatDoor
open Go.Lib

/-- One number's groups from the front: the number, how many bytes, the error's number. -/
def gscan : Nat → Nat → List UInt8 → Nat × Nat × Nat
  | _, _, [] => (0, 0, 5)
  | i, acc, c :: r =>
    if i = 9 ∧ 1 < c.toNat then (0, 0, 4)
    else if c.toNat < 128 then (if c.toNat = 0 ∧ 0 < i then (0, 0, 4) else (acc + c.toNat * 2 ^ (7 * i), i + 1, 0))
    else gscan (i + 1) (acc + c.toNat % 128 * 2 ^ (7 * i)) r

theorem gscan_n_le : ∀ (l : List UInt8) (i acc : Nat), (gscan i acc l).2.1 ≤ i + l.length
  | [], i, acc => by simp [gscan]
  | c :: r, i, acc => by
    rw [gscan]
    split
    · simp
    · split
      · split
        · simp
        · simp
      · have := gscan_n_le r (i + 1) (acc + c.toNat % 128 * 2 ^ (7 * i))
        rw [List.length_cons]; omega

theorem gscan_err : ∀ (l : List UInt8) (i acc : Nat), ((gscan i acc l).2.2 = 0 ∧ 1 ≤ (gscan i acc l).2.1) ∨ (gscan i acc l = (0, 0, 4)) ∨ (gscan i acc l = (0, 0, 5))
  | [], i, acc => by simp [gscan]
  | c :: r, i, acc => by
    rw [gscan]
    split
    · simp
    · split
      · split
        · simp
        · simp
      · exact gscan_err r _ _

/-- What is laid is read: the groups of x, and whatever stands behind them. -/
theorem gscan_uvarint : ∀ (k x : Nat) (rest : List UInt8) (i acc : Nat), i + k = 9 → x < 2 ^ (64 - 7 * i) → (0 < i → 0 < x) →
    gscan i acc (uvarint x ++ rest) = (acc + x * 2 ^ (7 * i), i + (uvarint x).length, 0)
  | k, x, rest, i, acc, hk, hx, hi => by
    by_cases h : x < 128
    · rw [uvarint_small h, List.cons_append, List.nil_append, gscan]
      have e : (x.toUInt8).toNat = x := toUInt8_toNat (by omega)
      rw [e]
      have h9 : ¬ (i = 9 ∧ 1 < x) := by
        rintro ⟨rfl, h1⟩
        have : x < 2 := hx
        omega
      rw [if_neg h9, if_pos h, if_neg (by omega)]
      simp
    · match k, hk with
      | 0, hk =>
        exfalso
        have : i = 9 := by omega
        subst this
        have : x < 2 := hx
        omega
      | k + 1, hk =>
        rw [uvarint_big (by omega), List.cons_append, gscan]
        have hm : x % 128 + 128 < 256 := by omega
        have e : ((x % 128 + 128).toUInt8).toNat = x % 128 + 128 := toUInt8_toNat hm
        rw [e, if_neg (by omega), if_neg (by omega)]
        have hx' : x / 128 < 2 ^ (64 - 7 * (i + 1)) := by
          rw [show 64 - 7 * i = (64 - 7 * (i + 1)) + 7 by omega, Nat.pow_add] at hx
          exact Nat.div_lt_of_lt_mul (by rw [Nat.mul_comm]; exact hx)
        rw [gscan_uvarint k (x / 128) rest (i + 1) _ (by omega) hx' (by omega)]
        have e2 : (x % 128 + 128) % 128 = x % 128 := by omega
        have e3 : (2 : Nat) ^ (7 * (i + 1)) = 128 * 2 ^ (7 * i) := by rw [show 7 * (i + 1) = 7 + 7 * i by omega, Nat.pow_add]
        rw [e2, e3, List.length_cons]
        refine Prod.ext ?_ (Prod.ext ?_ rfl)
        · show acc + x % 128 * 2 ^ (7 * i) + x / 128 * (128 * 2 ^ (7 * i)) = acc + x * 2 ^ (7 * i)
          rw [← Nat.mul_assoc, Nat.add_assoc, ← Nat.add_mul]
          congr 2
          omega
        · show i + 1 + _ = i + (_ + 1)
          omega

theorem gscan_laid (v : Int) (h0 : -9223372036854775808 ≤ v) (h1 : v ≤ 9223372036854775807) (rest : List UInt8) :
    gscan 0 0 (uvarint (zigzag v) ++ rest) = (zigzag v, (uvarint (zigzag v)).length, 0) := by
  have := gscan_uvarint 9 (zigzag v) rest 0 0 rfl (zigzag_lt h0 h1) (by omega)
  simpa using this

theorem gscan_u_lt : ∀ (l : List UInt8) (i acc : Nat), i ≤ 9 → acc < 2 ^ (7 * i) → (gscan i acc l).1 < 2 ^ 64
  | [], i, acc, _, _ => by simp [gscan]
  | c :: r, i, acc, hi, hacc => by
    have hc := c.toNat_lt
    have hp : (2 : Nat) ^ (7 * (i + 1)) = 128 * 2 ^ (7 * i) := by rw [show 7 * (i + 1) = 7 + 7 * i by omega, Nat.pow_add]
    rw [gscan]
    split
    · simp
    · rename_i h9
      split
      · rename_i hlt
        split
        · simp
        · show acc + c.toNat * 2 ^ (7 * i) < 2 ^ 64
          by_cases h : i = 9
          · subst h
            have : c.toNat ≤ 1 := by omega
            have : c.toNat * 2 ^ (7 * 9) ≤ 1 * 2 ^ (7 * 9) := Nat.mul_le_mul_right _ this
            omega
          · have hle : c.toNat * 2 ^ (7 * i) ≤ 127 * 2 ^ (7 * i) := Nat.mul_le_mul_right _ (by omega)
            have : (2 : Nat) ^ (7 * (i + 1)) ≤ 2 ^ 63 := Nat.pow_le_pow_right (by decide) (by omega)
            omega
      · rename_i hge
        have hi8 : i ≤ 8 := by omega
        refine gscan_u_lt r (i + 1) _ (by omega) ?_
        have hle : c.toNat % 128 * 2 ^ (7 * i) ≤ 127 * 2 ^ (7 * i) := Nat.mul_le_mul_right _ (by omega)
        omega

/-- One group more: what the code's bits spell. -/
theorem or_step (X k c : Nat) (hX : X < 2 ^ (7 * k)) (hk : k ≤ 9) (hc : c < 256) (h9 : k = 9 → c ≤ 1) :
    bits .or .u64 (X : Int) (IntKind.u64.wrap (IntKind.u64.wrap (bits .andNot .u8 (c : Int) 128) * 2 ^ (7 * k))) = ((X + c % 128 * 2 ^ (7 * k) : Nat) : Int) := by
  have e1 : bits .andNot .u8 (c : Int) 128 = ((c % 128 : Nat) : Int) := by
    have := u8_andNot_nat c 128 hc (by decide)
    rw [show ((128 : Nat) : Int) = 128 from rfl] at this
    rw [this, show 255 - 128 = 127 from rfl, nat_mask7]
  have e2 : IntKind.u64.wrap ((c % 128 : Nat) : Int) = ((c % 128 : Nat) : Int) := by rw [IntKind.wrap_u64]; omega
  have hlt : c % 128 * 2 ^ (7 * k) < 2 ^ 64 := by
    by_cases h : k = 9
    · have := h9 h
      subst h
      have h2 : c % 128 * 2 ^ (7 * 9) ≤ 1 * 2 ^ (7 * 9) := Nat.mul_le_mul_right _ (by omega)
      have h3 : (1 : Nat) * 2 ^ (7 * 9) < 2 ^ 64 := by decide
      exact Nat.lt_of_le_of_lt h2 h3
    · have h2 : c % 128 * 2 ^ (7 * k) ≤ 127 * 2 ^ (7 * k) := Nat.mul_le_mul_right _ (by omega)
      have h3 : (2 : Nat) ^ (7 * k) ≤ 2 ^ (7 * 8) := Nat.pow_le_pow_right (by decide) (by omega)
      have h4 : (127 : Nat) * 2 ^ (7 * 8) < 2 ^ 64 := by decide
      exact Nat.lt_of_le_of_lt (Nat.le_trans h2 (Nat.mul_le_mul_left _ h3)) h4
  have hX64 : X < 2 ^ 64 :=
    Nat.lt_of_lt_of_le hX (Nat.le_trans (Nat.pow_le_pow_right (by decide) (show 7 * k ≤ 63 by omega)) (by decide))
  have e3 : IntKind.u64.wrap (((c % 128 : Nat) : Int) * 2 ^ (7 * k)) = ((c % 128 * 2 ^ (7 * k) : Nat) : Int) := by
    have : ((c % 128 : Nat) : Int) * 2 ^ (7 * k) = ((c % 128 * 2 ^ (7 * k) : Nat) : Int) := by simp
    rw [this, IntKind.wrap_u64]
    omega
  rw [e1, e2, e3, bits_or_u64_nat _ _ hX64 hlt, Nat.or_comm, nat_join (7 * k) _ _ (Nat.mul_mod_left _ _) hX, Nat.add_comm]

theorem or_step9 (X c : Nat) (hX : X < 2 ^ 63) (h9 : c ≤ 1) :
    bits .or .u64 (X : Int) (IntKind.u64.wrap (IntKind.u64.wrap (bits .andNot .u8 (c : Int) 128) * 9223372036854775808)) = ((X + c * 2 ^ 63 : Nat) : Int) := by
  have h := or_step X 9 c hX (by omega) (by omega) (fun _ => h9)
  rw [show ((2 : Int) ^ (7 * 9)) = 9223372036854775808 by decide, show c % 128 = c by omega] at h
  exact h

theorem drop_cons (s : ByteArray) (k : Nat) (h : k < s.size) : s.data.toList.drop k = s[k] :: s.data.toList.drop (k + 1) := by
  rw [List.drop_eq_getElem_cons (by simpa using h)]
  rfl

/-- The steps of a round, as the walk asks for them. -/
theorem gs_over {s : ByteArray} {k X : Nat} (h : k < s.size) (e9 : (k : Int) = 9) (h1 : 1 < (s[k].toNat : Int)) : gscan k X (s.data.toList.drop k) = (0, 0, 4) := by
  rw [drop_cons s k h, gscan, if_pos ⟨by omega, by omega⟩]
theorem gs_zero {s : ByteArray} {k X : Nat} (h : k < s.size) (h0 : s[k].toNat = 0) (hk : 0 < k) : gscan k X (s.data.toList.drop k) = (0, 0, 4) := by
  rw [drop_cons s k h, gscan, if_neg (by omega), if_pos (by omega), if_pos ⟨h0, hk⟩]
theorem gs_last {s : ByteArray} {k X : Nat} (h : k < s.size) (h9 : ¬ (k = 9 ∧ 1 < s[k].toNat)) (h1 : s[k].toNat < 128) (h0 : ¬ (s[k].toNat = 0 ∧ 0 < k)) :
    gscan k X (s.data.toList.drop k) = (X + s[k].toNat * 2 ^ (7 * k), k + 1, 0) := by
  rw [drop_cons s k h, gscan, if_neg h9, if_pos h1, if_neg h0]
theorem gs_more {s : ByteArray} {k X : Nat} (h : k < s.size) (h9 : ¬ k = 9) (h1 : 128 ≤ s[k].toNat) :
    gscan k X (s.data.toList.drop k) = gscan (k + 1) (X + s[k].toNat % 128 * 2 ^ (7 * k)) (s.data.toList.drop (k + 1)) := by
  rw [drop_cons s k h, gscan, if_neg (by omega), if_neg (by omega)]
theorem gs_end {s : ByteArray} {k X : Nat} (h : ¬ k < s.size) : gscan k X (s.data.toList.drop k) = (0, 0, 5) := by
  rw [List.drop_eq_nil_of_le (by simp; omega), gscan]
theorem acc_step {X k c : Nat} (hX : X < 2 ^ (7 * k)) : X + c % 128 * 2 ^ (7 * k) < 2 ^ (7 * (k + 1)) := by
  have hp : (2 : Nat) ^ (7 * (k + 1)) = 128 * 2 ^ (7 * k) := by rw [show 7 * (k + 1) = 7 + 7 * k by omega, Nat.pow_add]
  have hle : c % 128 * 2 ^ (7 * k) ≤ 127 * 2 ^ (7 * k) := Nat.mul_le_mul_right _ (by omega)
  omega

end Go.Proofs.YtpoocbkligjgbaaGreatDoor

namespace Go.Proofs.YtpoocbkligjgbaaGreatDoor
open Go.RowKit Go.Lib

/-- A number in n bytes, the lowest first. -/
def leb : Nat → Nat → List UInt8
  | 0, _ => []
  | n + 1, v => (v % 256).toUInt8 :: leb n (v / 256)

theorem leb_length : ∀ (n v : Nat), (leb n v).length = n
  | 0, _ => rfl
  | n + 1, v => by rw [leb, List.length_cons, leb_length n]

set_option maxRecDepth 1000000 in
set_option maxHeartbeats 400000 in
theorem fix_bad1 (v n : Int) (w : World) (h : n < 1 ∨ 7 < n ∨ v < 0) : Calls Tryz.prog 142 #[.int .i64 v, .int .i64 n] w fun e w' => e = .returned (.tuple #[.string ByteArray.empty, .int .i64 1]) ∧ w = w' := by
  by_cases h1 : n < 1
  · go_enter Tryz.func142, Tryz.ntmps142
    go_wp2
    go_ret2
    exact ⟨rfl, rfl⟩
  · by_cases h2 : 7 < n
    · go_enter Tryz.func142, Tryz.ntmps142
      go_wp2
      go_ret2
      exact ⟨rfl, rfl⟩
    · have h3 : v < 0 := by omega
      go_enter Tryz.func142, Tryz.ntmps142
      go_wp2
      go_ret2
      exact ⟨rfl, rfl⟩

theorem leb_get : ∀ (n v k : Nat), k < n → (leb n v)[k]? = some ((v / 2 ^ (8 * k) % 256).toUInt8)
  | n + 1, v, 0, _ => by simp [leb]
  | n + 1, v, k + 1, h => by
    rw [leb, List.getElem?_cons_succ, leb_get n (v / 256) k (by omega), Nat.div_div_eq_div_mul, show 8 * (k + 1) = 8 + 8 * k by omega, Nat.pow_add]

theorem set_fill {α : Type} (B : List α) (z x : α) (n k : Nat) (hk : k < n) (hB : B.length = n) (hx : B[k]? = some x) :
    (B.take k ++ List.replicate (n - k) z).set k x = B.take (k + 1) ++ List.replicate (n - (k + 1)) z := by
  rw [List.set_append_right _ _ (by simp; omega)]
  have e1 : k - (B.take k).length = 0 := by simp; omega
  rw [e1, show n - k = (n - (k + 1)) + 1 by omega, List.replicate_succ, List.set_cons_zero, List.take_add_one, hx]
  simp

theorem shr_zero {v n : Nat} (h : v < 2 ^ (8 * n)) : (((v : Int) / 2 ^ (8 * n)) != 0) = false := by
  have e : ((v : Int) / 2 ^ (8 * n)) = ((v / 2 ^ (8 * n) : Nat) : Int) := by simp
  rw [e, Nat.div_eq_of_lt h]
  rfl
theorem shr_some {v n : Nat} (h : ¬ v < 2 ^ (8 * n)) : (((v : Int) / 2 ^ (8 * n)) != 0) = true := by
  have e : ((v : Int) / 2 ^ (8 * n)) = ((v / 2 ^ (8 * n) : Nat) : Int) := by simp
  have h2 : 0 < v / 2 ^ (8 * n) := Nat.div_pos (by omega) (Nat.two_pow_pos _)
  rw [e]
  simp
  omega

set_option maxRecDepth 1000000 in
set_option maxHeartbeats 400000 in
theorem fix_big (v n : Nat) (w : World) (h1 : 1 ≤ n) (h7 : n ≤ 7) (hb : ¬ v < 2 ^ (8 * n)) : Calls Tryz.prog 142 #[.int .i64 v, .int .i64 n] w fun e w' => e = .returned (.tuple #[.string ByteArray.empty, .int .i64 1]) ∧ w = w' := by
  have hs := shr_some hb
  clear hb
  go_enter Tryz.func142, Tryz.ntmps142
  go_wp2
  go_ret2
  exact ⟨rfl, rfl⟩

set_option maxRecDepth 1000000 in
set_option maxHeartbeats 400000 in
theorem fix_ok (v n : Nat) (w : World) (h1 : 1 ≤ n) (h7 : n ≤ 7) (hv : v ≤ 9223372036854775807) (hb : v < 2 ^ (8 * n)) :
    Calls Tryz.prog 142 #[.int .i64 v, .int .i64 n] w fun e w' => e = .returned (.tuple #[.string ⟨(leb n v).toArray⟩, .int .i64 0]) ∧ Below w.heap.size w w' := by
  obtain ⟨i0, hi, hz0, hz1, hz2⟩ := info_parts Tryz.infoU8
  have hs := shr_zero hb
  clear hb
  go_enter Tryz.func142, Tryz.ntmps142
  go_wp2_with (at_make; refine wpList_make_full _ rfl _ _ 223 rfl w.heap.size 5 i0 (.int .u8 0) 1 Tryz.underlying223 hi hz0 hz1 .i64 .i64 n n n rfl rfl rfl rfl (by rw [hz2]; omega) (by unfold maxLen; omega) (Nat.le_refl _) ?_; intro w1 hown hgrow)
  have hrow : w1.ownsRow w.heap.size 5 1 (.slice (some ⟨w.heap.size, 0, none⟩) n n) n ((byteCells (leb n v)).take 0 ++ List.replicate (n - 0) (.int .u8 0)) := by
    have e := toList_madeCells_one (.int .u8 0) n
    simp only [Nat.mul_one] at hown
    have e2 : (Value.int .u8 0).cells = #[Value.int .u8 0] := rfl
    rw [e2, e] at hown
    simpa using hown
  have hbl : Below w.heap.size w w1 := (Below.refl _ _).grown hgrow (Nat.le_refl _) (fun k hk => by cases hk)
  clear hown hgrow
  go_loopw [29] (fun i wr => ∃ k : Nat, k ≤ n ∧ i = .int .i64 k ∧ wr.ownsRow w.heap.size 5 1 (.slice (some ⟨w.heap.size, 0, none⟩) n n) n ((byteCells (leb n v)).take k ++ List.replicate (n - k) (.int .u8 0)) ∧ Below w.heap.size w wr) (fun i _ => n - (intOf i).toNat)
  case atStart => exact ⟨0, Nat.zero_le _, rfl, hrow, hbl⟩
  case round =>
    obtain ⟨k, hk, rfl, hr, hbr⟩ := hrel
    by_cases hlt : k < n
    · have hg := leb_get n v k hlt
      have ec : ((v / 2 ^ (8 * k) % 256 : Nat) : Int) = (v : Int) / 2 ^ (8 * k) % 256 := by simp
      have hbk : (byteCells (leb n v))[k]? = some (.int .u8 ((v : Int) / 2 ^ (8 * k) % 256)) := by
        rw [byteCells, List.getElem?_map, hg, ← ec]
        simp [toUInt8_toNat]
      have hbl' : (byteCells (leb n v)).length = n := by rw [byteCells_length, leb_length]
      have hc : wr.cell? ⟨w.heap.size, k, none⟩ = some (.int .u8 0) := by
        rw [hr.cellAt k (by omega), List.getElem?_append_right (by simp; omega)]
        have e1 : k - ((byteCells (leb n v)).take k).length = 0 := by simp; omega
        rw [e1, show n - k = (n - (k + 1)) + 1 by omega]
        rfl
      have hfz := hr.frozenAt k
      obtain ⟨hst, hgr⟩ := hr.stored k (.int .u8 ((v : Int) / 2 ^ (8 * k) % 256))
      rw [set_fill _ _ _ n k hlt hbl' hbk] at hst
      clear hg hbk hr ec hbl'
      go_wp2
      go_roundw
      case rel => exact ⟨k + 1, by omega, by go_num, hst, hbr.grown hgr hbr.size (fun j hj => by cases hj; exact Nat.le_refl _)⟩
      case measure => simp [intOf]; omega
    · have hkn : k = n := by omega
      have hx : Row wr w.heap.size (.slice (some ⟨w.heap.size, 0, none⟩) n n) (leb n v) := by
        unfold Row
        rw [leb_length]
        rw [hkn, List.take_of_length_le (by rw [byteCells_length, leb_length]; omega)] at hr
        simpa using hr
      have hstr := row_string hx
      clear hr hx
      go_wp2
      go_ret2
      exact ⟨rfl, hbr⟩

/-- What Fix tells, of any two ints. -/
def fixB (v n : Int) : List UInt8 := if 1 ≤ n ∧ n ≤ 7 ∧ 0 ≤ v ∧ v < 2 ^ (8 * n.toNat) then leb n.toNat v.toNat else []
def fixE (v n : Int) : Int := if 1 ≤ n ∧ n ≤ 7 ∧ 0 ≤ v ∧ v < 2 ^ (8 * n.toNat) then 0 else 1

theorem fix_any (v n : Int) (w : World) (hv : v ≤ 9223372036854775807) :
    Calls Tryz.prog 142 #[.int .i64 v, .int .i64 n] w fun e w' => e = .returned (.tuple #[.string ⟨(fixB v n).toArray⟩, .int .i64 (fixE v n)]) ∧ Below w.heap.size w w' := by
  unfold fixB fixE
  by_cases h : n < 1 ∨ 7 < n ∨ v < 0
  · rw [if_neg (by omega), if_neg (by omega)]
    refine (fix_bad1 v n w h).mono ?_
    rintro e w' ⟨rfl, rfl⟩
    exact ⟨rfl, Below.refl _ _⟩
  · obtain ⟨k, rfl⟩ : ∃ k : Nat, n = k := ⟨n.toNat, by omega⟩
    obtain ⟨u, rfl⟩ : ∃ u : Nat, v = u := ⟨v.toNat, by omega⟩
    simp only [Int.toNat_natCast]
    have ec : ((u : Int) < 2 ^ (8 * k)) ↔ u < 2 ^ (8 * k) := by
      rw [show ((2 : Int) ^ (8 * k)) = ((2 ^ (8 * k) : Nat) : Int) by simp]
      omega
    by_cases hb : u < 2 ^ (8 * k)
    · rw [if_pos ⟨by omega, by omega, by omega, ec.2 hb⟩, if_pos ⟨by omega, by omega, by omega, ec.2 hb⟩]
      exact fix_ok u k w (by omega) (by omega) (by omega) hb
    · rw [if_neg (fun h => hb (ec.1 h.2.2.2)), if_neg (fun h => hb (ec.1 h.2.2.2))]
      refine (fix_big u k w (by omega) (by omega) hb).mono ?_
      rintro e w' ⟨rfl, rfl⟩
      exact ⟨rfl, Below.refl _ _⟩
end Go.Proofs.YtpoocbkligjgbaaGreatDoor

namespace Go.Proofs.YtpoocbkligjgbaaGreatDoor
open Go.RowKit Go.Lib

/-- One of the eight steps of a byte, and all of them; a byte; bytes; the sum. -/
def step1 (x : Nat) : Nat := if x % 2 = 1 then x / 2 ^^^ 3988292384 else x / 2
def steps : Nat → Nat → Nat
  | 0, x => x
  | k + 1, x => steps k (step1 x)
def crcByte (x : Nat) (c : UInt8) : Nat := steps 8 (x ^^^ c.toNat)
def crcFrom (x : Nat) (l : List UInt8) : Nat := l.foldl crcByte x
def crcB (l : List UInt8) : Nat := 4294967295 - crcFrom 4294967295 l

theorem xor_lt32 {a b : Nat} (ha : a < 4294967296) (hb : b < 4294967296) : a ^^^ b < 4294967296 := Nat.xor_lt_two_pow (n := 32) ha hb
theorem step1_lt {x : Nat} (h : x < 4294967296) : step1 x < 4294967296 := by
  unfold step1
  split
  · exact xor_lt32 (by omega) (by decide)
  · omega
theorem steps_lt : ∀ (k x : Nat), x < 4294967296 → steps k x < 4294967296
  | 0, _, h => h
  | k + 1, _, h => steps_lt k _ (step1_lt h)
theorem steps_succ : ∀ (k x : Nat), steps (k + 1) x = step1 (steps k x)
  | 0, _ => rfl
  | k + 1, x => steps_succ k (step1 x)
theorem crcByte_lt {x : Nat} {c : UInt8} (h : x < 4294967296) : crcByte x c < 4294967296 := steps_lt 8 _ (xor_lt32 h (by have := c.toNat_lt; omega))
theorem crcFrom_lt : ∀ (l : List UInt8) (x : Nat), x < 4294967296 → crcFrom x l < 4294967296
  | [], _, h => h
  | _ :: r, _, h => crcFrom_lt r _ (crcByte_lt h)

set_option maxRecDepth 100000 in
theorem stir_step (x : Nat) (h : x < 4294967296) : bits .xor .u32 ((x : Int) / 2) (bits .and .u32 3988292384 (-(bits .and .u32 (x : Int) 1) % 4294967296)) = ((step1 x : Nat) : Int) := by
  have e1 : bits .and .u32 (x : Int) 1 = ((x % 2 : Nat) : Int) := by
    have := u32_and_nat x 1 h (by decide)
    rw [show ((1 : Nat) : Int) = 1 from rfl] at this
    rw [this, nat_mask1]
  rw [e1]
  have e2 : (x : Int) / 2 = ((x / 2 : Nat) : Int) := by omega
  rw [e2]
  unfold step1
  by_cases hp : x % 2 = 1
  · have e3 : -((x % 2 : Nat) : Int) % 4294967296 = ((4294967295 : Nat) : Int) := by omega
    have e4 : bits .and .u32 3988292384 ((4294967295 : Nat) : Int) = ((3988292384 : Nat) : Int) := by decide +kernel
    rw [e3, e4, if_pos hp]
    exact u32_xor_nat _ _ (by omega) (by decide)
  · have e3 : -((x % 2 : Nat) : Int) % 4294967296 = ((0 : Nat) : Int) := by omega
    have e4 : bits .and .u32 3988292384 ((0 : Nat) : Int) = ((0 : Nat) : Int) := by decide +kernel
    rw [e3, e4, if_neg hp, u32_xor_nat _ _ (by omega) (by decide), Nat.xor_zero]

set_option maxRecDepth 1000000 in
set_option maxHeartbeats 400000 in
theorem stir_any (x : Nat) (w : World) (h : x < 4294967296) : Calls Tryz.prog 180 #[.int .u32 x] w fun e w' => e = .returned (.int .u32 (steps 8 x)) ∧ w = w' := by
  go_enter Tryz.func180, Tryz.ntmps180
  go_wp2
  go_loop [0, 3] (fun v i => ∃ k : Nat, k ≤ 8 ∧ i = .int .i64 k ∧ v = .int .u32 (steps k x)) (fun _ i => 8 - (intOf i).toNat)
  case atStart => exact ⟨0, by omega, rfl, rfl⟩
  case round =>
    obtain ⟨k, hk, rfl, rfl⟩ := hrel
    have hst := stir_step (steps k x) (steps_lt k x h)
    rw [← steps_succ] at hst
    have HST := Lib.hid hst
    have hlt := steps_lt k x h
    generalize hy : steps k x = y at *
    have HY := Lib.hid hy
    clear hst hy
    by_cases hk8 : k < 8
    · go_wp2
      go_round
      case rel => exact ⟨k + 1, by omega, by go_num, by rw [HST.out]⟩
      case measure => simp [intOf]; omega
    · obtain rfl : k = 8 := by omega
      go_wp2
      rw [HY.out]
      go_ret
      exact ⟨rfl, rfl⟩

theorem crc_byte (x c : Nat) (h : x < 4294967296) (hc : c < 256) : bits .xor .u32 (x : Int) ((c : Int) % 4294967296) = ((x ^^^ c : Nat) : Int) := by
  rw [show ((c : Int) % 4294967296) = (c : Int) by omega]
  exact u32_xor_nat _ _ h (by omega)

theorem ones_xor (n b : Nat) (hb : b < 2 ^ n) : (2 ^ n - 1) ^^^ b = 2 ^ n - 1 - b := by
  refine Nat.eq_of_testBit_eq fun i => ?_
  rw [show 2 ^ n - 1 - b = 2 ^ n - (b + 1) by omega, Nat.testBit_two_pow_sub_succ hb, Nat.testBit_xor, Nat.testBit_two_pow_sub_one]
  by_cases hi : i < n
  · simp [hi]
  · have : b.testBit i = false := Nat.testBit_lt_two_pow (Nat.lt_of_lt_of_le hb (Nat.pow_le_pow_right (by decide) (by omega)))
    simp [hi, this]

theorem crc_not (y : Nat) (h : y < 4294967296) : wrap64 (bits .xor .u32 IntKind.u32.max (y : Int)) = ((4294967295 - y : Nat) : Int) := by
  have e1 : IntKind.u32.max = ((4294967295 : Nat) : Int) := by decide +kernel
  have e2 : (4294967295 : Nat) = 2 ^ 32 - 1 := by decide
  rw [e1, u32_xor_nat _ _ (by decide) h, e2, ones_xor 32 y h]
  unfold wrap64
  omega

def flat (l : List ByteArray) : List UInt8 := l.flatMap fun s => s.data.toList
theorem flat_snoc (l : List ByteArray) (s : ByteArray) : flat (l ++ [s]) = flat l ++ s.data.toList := by simp [flat]
theorem crcFrom_append (x : Nat) (a b : List UInt8) : crcFrom x (a ++ b) = crcFrom (crcFrom x a) b := List.foldl_append

theorem take_bytes (s : ByteArray) (j : Nat) (h : j < s.size) : s.data.toList.take (j + 1) = s.data.toList.take j ++ [s[j]] := by
  rw [List.take_succ_eq_append_getElem (by simpa using h)]
  rfl

set_option maxRecDepth 1000000 in
set_option maxHeartbeats 400000 in
theorem crc_any (v : Value) (l : List ByteArray) (w : World) (hr : Reads1 w w.heap.size v (l.map Value.string)) (hl : l.length ≤ 1099511627776) (hsz : ∀ s ∈ l, s.size ≤ 9223372036854775807) :
    Calls Tryz.prog 127 #[v] w fun e w' => e = .returned (.int .i64 (crcB (flat l))) ∧ w = w' := by
  obtain ⟨A, c, rfl, hc⟩ := hr
  simp only [List.length_map] at hc ⊢
  go_enter Tryz.func127, Tryz.ntmps127
  go_wp2
  go_loop [3, 9] (fun x i => ∃ k : Nat, k ≤ l.length ∧ i = .int .i64 k ∧ x = .int .u32 (crcFrom 4294967295 (flat (l.take k)))) (fun _ i => l.length - (intOf i).toNat)
  case atStart => exact ⟨0, Nat.zero_le _, rfl, rfl⟩
  case round =>
    obtain ⟨k, hk, rfl, rfl⟩ := hrel
    have hlt0 := crcFrom_lt (flat (l.take k)) 4294967295 (by decide)
    by_cases hlt : k < l.length
    · obtain ⟨b, off, rfl, hbb, hcell⟩ := hc (by omega)
      have hck : w.cell? ⟨b, off + k, none⟩ = some (.string l[k]) := hcell k _ (by simp [hlt])
      have hsk := hsz l[k] (by simp)
      have HS : Hid (flat (l.take (k + 1)) = flat (l.take k) ++ l[k].data.toList) := by show _ = _; rw [take_snoc1 l k hlt, flat_snoc]
      generalize l[k] = s at *
      clear hc hcell
      generalize hx : crcFrom 4294967295 (flat (l.take k)) = x0 at *
      have HX := Lib.hid hx
      clear hx
      go_wp2
      go_loop [3, 15] (fun x i => ∃ j : Nat, j ≤ s.size ∧ i = .int .i64 j ∧ x = .int .u32 (crcFrom x0 (s.data.toList.take j))) (fun _ i => s.size - (intOf i).toNat)
      case atStart => exact ⟨0, Nat.zero_le _, rfl, rfl⟩
      case round =>
        obtain ⟨j, hj, rfl, rfl⟩ := hrel
        have hlt1 := crcFrom_lt (s.data.toList.take j) x0 hlt0
        by_cases hjs : j < s.size
        · have HT : Hid (steps 8 (crcFrom x0 (s.data.toList.take j) ^^^ s[j].toNat) = crcFrom x0 (s.data.toList.take (j + 1))) := by show _ = _; rw [take_bytes s j hjs, crcFrom_append]; rfl
          have hxl : crcFrom x0 (s.data.toList.take j) ^^^ s[j].toNat < 4294967296 := xor_lt32 hlt1 (by have := s[j].toNat_lt; omega)
          have hcb := crc_byte _ s[j].toNat hlt1 s[j].toNat_lt
          generalize crcFrom x0 (s.data.toList.take j) = y at *
          have HCB := Lib.hid hcb
          clear hcb
          go_wp2_with fail
          rw [HCB.out]
          refine (stir_any _ _ hxl).mono ?_
          rintro e w' ⟨rfl, rfl⟩
          rw [HT.out]
          go_wp2
          go_round
          case rel => exact ⟨j + 1, by omega, by go_num, rfl⟩
          case measure => simp [intOf]; omega
        · have hjj : s.data.toList.take j = s.data.toList := List.take_of_length_le (by simp; omega)
          have HE : Hid (crcFrom x0 (s.data.toList.take j) = crcFrom 4294967295 (flat (l.take (k + 1)))) := by show _ = _; rw [hjj, HS.out, crcFrom_append, HX.out]
          clear hjj
          generalize crcFrom x0 (s.data.toList.take j) = y at *
          go_wp2
          go_round
          case rel => exact ⟨k + 1, by omega, by go_num, by rw [HE.out]⟩
          case measure => simp [intOf]; omega
    · have hkl : k = l.length := by omega
      have HE : Hid (crcFrom 4294967295 (flat (l.take k)) = crcFrom 4294967295 (flat l)) := by show _ = _; rw [hkl, List.take_length]
      have hnot := crc_not _ hlt0
      have hcb : 4294967295 - crcFrom 4294967295 (flat (l.take k)) = crcB (flat l) := by rw [HE.out]; rfl
      rw [hcb] at hnot
      have HNOT := Lib.hid hnot
      clear hkl hnot hcb
      generalize crcFrom 4294967295 (flat (l.take k)) = y at *
      go_wp2
      rw [HNOT.out]
      go_ret
      exact ⟨rfl, rfl⟩

end Go.Proofs.YtpoocbkligjgbaaGreatDoor

namespace Go.Proofs.YtpoocbkligjgbaaGreatDoor
open Go.Lib





theorem crcB_lt (l : List UInt8) : crcB l < 4294967296 := by unfold crcB; omega

end Go.Proofs.YtpoocbkligjgbaaGreatDoor

namespace Go.Proofs.YtpoocbkligjgbaaGreatDoor
open Go.RowKit Go.Lib

def headB (kind id next n : Nat) : List UInt8 := leb 1 kind ++ leb 4 id ++ leb 4 next ++ leb 2 n
def bodyB (kind id next : Nat) (s : List UInt8) : List UInt8 := headB kind id next s.length ++ s ++ List.replicate (241 - s.length) 0
def pageB (kind id next : Nat) (s : List UInt8) : List UInt8 := bodyB kind id next s ++ leb 4 (crcB (bodyB kind id next s))


/-- What may be sealed; what Seal tells. -/
def SealOK (id kind next : Int) : Prop := 0 ≤ id ∧ id < 4294967296 ∧ 0 ≤ next ∧ next < 4294967296 ∧ 1 ≤ kind ∧ kind < 256
instance (id kind next : Int) : Decidable (SealOK id kind next) := by unfold SealOK; infer_instance
def sealE (id kind next : Int) (n : Nat) : Int := if SealOK id kind next then (if n ≤ 240 then 0 else 2) else 1
def sealB (id kind next : Int) (s : List UInt8) : List UInt8 := if SealOK id kind next ∧ s.length ≤ 240 then pageB kind.toNat id.toNat next.toNat s else []




/-! ### What is sealed is opened as it was -/
theorem drop_left {α : Type} (a b : List α) {n : Nat} (h : a.length = n) : (a ++ b).drop n = b := by rw [← h, List.drop_left]
theorem take_left {α : Type} (a b : List α) {n : Nat} (h : a.length = n) : (a ++ b).take n = a := by rw [← h, List.take_left]

section
variable {kind id next : Nat} {s : List UInt8}
end
end Go.Proofs.YtpoocbkligjgbaaGreatDoor
