/-
  A device's calls, each by one contract; and the first calls whose answers the document fixes.
-/
import Derived.Test.YtlmhhoijbebcbaaD7
namespace Go.Proofs.Ytlmhhoijbebcbaa
open Go.RowKit Go.Lib

def growAE (s : DevS) (n : Int) : Int := if (powS s).on = true then growE (powS s) n else 14
def growAS (s : DevS) (n : Int) : DevS := if (powS s).on = true then growS (powS s) n else powS s
theorem grow_any (p : Nat) (s : DevS) (F : List Nat) (n : Int) (w : World) (h : DevAt w p s F) :
    Calls Try.prog 14 #[.pointer (some ⟨p, 0, none⟩), .int .i64 n] w (DevTo p (growAS s n) (.int .i64 (growAE s n)) F w) := by
  unfold growAE growAS
  by_cases hon : (powS s).on = true
  · rw [if_pos hon, if_pos hon]
    exact grow_on p s F n w h hon
  · rw [if_neg hon, if_neg hon]
    exact grow_off p s F n w h (by simpa using hon)

def syncAE (s : DevS) : Int := if (powS s).on = true then 0 else 14
def syncAS (s : DevS) : DevS := if (powS s).on = true then syncedS (powS s) else powS s
theorem sync_any (p : Nat) (s : DevS) (F : List Nat) (w : World) (h : DevAt w p s F) (hl : s.line.length ≤ 100000000000) :
    Calls Try.prog 16 #[.pointer (some ⟨p, 0, none⟩)] w fun e w' => e = .returned (.int .i64 (syncAE s)) ∧ DevAt w' p (syncAS s) F ∧ Kept F w w' := by
  unfold syncAE syncAS
  by_cases hon : (powS s).on = true
  · rw [if_pos hon, if_pos hon]
    exact sync_on p s F w h hon hl
  · rw [if_neg hon, if_neg hon]
    exact sync_off p s F w h (by simpa using hon)

/-- A device that has power, and no fuse. -/
structure Idle (s : DevS) : Prop where
  on : s.on = true
  fuse : s.fuse = -1
theorem Idle.pow {s : DevS} (h : Idle s) : powS s = s := by unfold powS; rw [if_pos h.on, if_pos h.fuse]
theorem Idle.write {s : DevS} (h : Idle s) {n : Int} {d : ByteArray} (h0 : 0 ≤ n) (h1 : n < s.pages.length) (h2 : d.size = 256) : writeE s n d = 0 ∧ writeS s n d = wroteS s n d ∧ Idle (wroteS s n d) := by
  have hf : faultE s n d = 0 := by unfold faultE; rw [if_pos ⟨h0, h1⟩, if_pos h2]
  unfold writeE writeS
  rw [h.pow, if_pos h.on, if_pos h.on, if_pos h.on, if_pos hf]
  exact ⟨hf, rfl, h.on, h.fuse⟩
theorem Idle.sync {s : DevS} (h : Idle s) : syncAE s = 0 ∧ syncAS s = syncedS s := by
  unfold syncAE syncAS
  rw [h.pow, if_pos h.on, if_pos h.on]
  exact ⟨rfl, rfl⟩
theorem Idle.grow {s : DevS} (h : Idle s) (n : Int) : growAE s n = growE s n ∧ growAS s n = growS s n := by
  unfold growAE growAS
  rw [h.pow, if_pos h.on, if_pos h.on]
  exact ⟨rfl, rfl⟩
theorem newS_idle (n : Int) : Idle (newS n) := ⟨rfl, rfl⟩
theorem longer_idle {s : DevS} (h : Idle s) (k : Nat) : Idle (longer s k) := ⟨h.on, h.fuse⟩
/-- A crash, and power again: what of a device a settling does not touch. -/
theorem settled_flags (keep : Nat → Int) : ∀ (r : List (Int × ByteArray)) (i : Nat) (s : DevS), (settled keep i r s).on = s.on ∧ (settled keep i r s).fuse = s.fuse ∧ (settled keep i r s).most = s.most ∧ (settled keep i r s).line = [] ∧
    (settled keep i r s).pages.length = s.pages.length ∧ (settled keep i r s).synced.length = s.synced.length ∧ (settled keep i r s).cap = s.cap
  | [], _, _ => ⟨rfl, rfl, rfl, rfl, rfl, rfl, rfl⟩
  | (n, d) :: r, i, s => by
    obtain ⟨a, b, c, e, f, g, h⟩ := settled_flags keep r (i + 1) (settle1 s n d (keep i))
    unfold settled
    exact ⟨a, b, c, e, by rw [f]; simp [settle1], by rw [g]; simp [settle1], h⟩
theorem synced_idle {s : DevS} (h : Idle s) : Idle (syncedS s) := by
  obtain ⟨a, b, _⟩ := settled_flags (fun _ => 255) s.line 0 s
  exact ⟨a.trans h.on, b.trans h.fuse⟩

/-- The page of a byte b, as a text. -/
def filledB (b k : Nat) : ByteArray := ⟨(filled b k).toArray⟩
theorem filledB_size (b k : Nat) : (filledB b k).size = 256 := by
  show (filled b k).toArray.size = 256
  rw [List.size_toArray, filled_length]

namespace first
def s1 : DevS := longer (newS 3) 1
def s2 : DevS := wroteS s1 0 (filledB 97 300)
def s3 : DevS := syncedS s2
def s4 : DevS := wroteS s3 0 (filledB 99 1)
def s5 : DevS := crashS s4 [1]
def s7 : DevS := { s5 with on := true }
theorem i1 : Idle s1 := longer_idle (newS_idle 3) 1
theorem i2 : Idle s2 := ⟨i1.on, i1.fuse⟩
theorem i3 : Idle s3 := synced_idle i2
theorem i4 : Idle s4 := ⟨i3.on, i3.fuse⟩
theorem l2 : s2.pages.length = 1 := by unfold s2 wroteS s1 longer newS; simp
theorem l3 : s3.pages.length = 1 := by
  have := (settled_flags (fun _ => 255) s2.line 0 s2).2.2.2.2.1
  exact this.trans l2
theorem line3 : s3.line = [] := (settled_flags (fun _ => 255) s2.line 0 s2).2.2.2.1
theorem off5 : s5.on = false := (settled_flags (keepOf [1]) s4.line 0 { s4 with on := false, fuse := -1 }).1
theorem fuse5 : s5.fuse = -1 := (settled_flags (keepOf [1]) s4.line 0 { s4 with on := false, fuse := -1 }).2.1
theorem most5 : s5.most = 3 := (settled_flags (keepOf [1]) s4.line 0 { s4 with on := false, fuse := -1 }).2.2.1
theorem pow5 : powS s5 = s5 := by unfold powS; rw [if_neg (by rw [off5]; decide)]
theorem sync5 : syncAE s5 = 14 ∧ syncAS s5 = s5 := by
  unfold syncAE syncAS
  rw [pow5, if_neg (by rw [off5]; decide), if_neg (by rw [off5]; decide)]
  exact ⟨rfl, rfl⟩
theorem cap4 : s3.cap = 16 := (settled_flags (fun _ => 255) s2.line 0 s2).2.2.2.2.2.2
/-- What is read at last. -/
def page : ByteArray := mixB (mixB blank (filledB 97 300) 255) (filledB 99 1) 1
theorem read7 : readB s7 0 = page ∧ readE s7 0 = 0 := by
  have hp : s7.pages = [page] := by rfl
  constructor
  · unfold readB
    rw [if_pos ⟨rfl, by decide⟩, hp]
    rfl
  · unfold readE
    rw [if_pos (show s7.on = true from rfl), if_pos ⟨Int.le_refl _, by rw [hp]; decide⟩]
theorem page_size : page.size = 256 := mixB_size (mixB_size blank_size (filledB_size _ _)) (filledB_size _ _)
theorem byte0 : (page[0]'(by rw [page_size]; decide)).toNat = 99 := by decide +kernel
theorem byte1 : (page[1]'(by rw [page_size]; decide)).toNat = 100 := by decide +kernel
theorem byte31 : (page[31]'(by rw [page_size]; decide)).toNat = 99 := by decide +kernel
theorem byte32 : (page[32]'(by rw [page_size]; decide)).toNat = 97 := by decide +kernel
theorem byte44 : (page[44]'(by rw [page_size]; decide)).toNat = 98 := by decide +kernel
end first

open first in
set_option maxRecDepth 1000000 in
set_option maxHeartbeats 800000 in
theorem alive_walk (w : World) : Calls Try.prog 13 #[] w fun e w' => e = .returned (.bool true) ∧ Below w.heap.size w w' := by
  go_enter Try.func13, Try.ntmps13
  go_wp2_with fail
  refine (new_ok 3 w (by omega) (by omega)).mono ?_
  rintro e w1 ⟨rfl, hd, hb1⟩
  have hgr := grow_any w.heap.size (newS 3) _ 1 w1 hd
  rw [((newS_idle 3).grow 1).1, ((newS_idle 3).grow 1).2, show growE (newS 3) 1 = 0 from by decide, show growS (newS 3) 1 = s1 from rfl] at hgr
  have H1 := Lib.hid hb1
  clear hd hb1
  go_wp2_with fail
  refine hgr.mono ?_
  rintro e w2 ⟨rfl, F2, hd, hg2⟩
  have H2 := Lib.hid (And.intro hd hg2)
  clear hd hg2 hgr
  go_wp2_with fail
  refine (filled_any 97 300 _ (by omega)).mono ?_
  rintro e w3 ⟨rfl, hb3⟩
  obtain ⟨hd3, hg3⟩ := H2.out.1.goes hb3
  have hwr := write_any w.heap.size s1 F2 0 (filledB 97 300) w3 hd3 (by decide)
  rw [(i1.write (n := 0) (by omega) (by decide) (filledB_size _ _)).1, (i1.write (n := 0) (by omega) (by decide) (filledB_size _ _)).2.1] at hwr
  have H3 := Lib.hid (H2.out.2.trans hg3)
  clear hd3 hg3 hb3
  go_wp2_with fail
  refine hwr.mono ?_
  rintro e w4 ⟨rfl, F4, hd4, hg4⟩
  have hsy := sync_any w.heap.size s2 F4 w4 hd4 (by decide)
  rw [i2.sync.1, i2.sync.2] at hsy
  have H4 := Lib.hid (H3.out.trans hg4)
  have hm4 := hd4.mem
  clear hd4 hg4 hwr
  go_wp2_with fail
  refine hsy.mono ?_
  rintro e w5 ⟨rfl, hd5, hk5⟩
  have H5 := Lib.hid (And.intro hd5 (H4.out.trans (goes_of_kept hk5 (fun k hk => hk))))
  clear hd5 hk5 hsy
  go_wp2_with fail
  refine (filled_any 99 1 _ (by omega)).mono ?_
  rintro e w6 ⟨rfl, hb6⟩
  obtain ⟨hd6, hg6⟩ := H5.out.1.goes hb6
  have hwr := write_any w.heap.size s3 F4 0 (filledB 99 1) w6 hd6 (by rw [cap4]; omega)
  rw [(i3.write (n := 0) (by omega) (by rw [l3]; decide) (filledB_size _ _)).1, (i3.write (n := 0) (by omega) (by rw [l3]; decide) (filledB_size _ _)).2.1] at hwr
  have H6 := Lib.hid (H5.out.2.trans hg6)
  clear hd6 hg6 hb6
  go_wp2_with fail
  refine hwr.mono ?_
  rintro e w7 ⟨rfl, F7, hd7, hg7⟩
  have hk8 : Kept [] w7 (w7.alloc (.cells #[.int .i64 1] 3)) := (Kept.refl _ _).alloc _
  have hcr := crash_any w.heap.size s4 F7 (.slice (some ⟨w7.heap.size, 0, none⟩) 1 1) [1] _ (hd7.kept hk8 (by simp)) (Reads2.built w7 3 #[.int .i64 1] F7 hd7.lt) (by intro x hx; simp at hx; subst hx; exact ⟨by omega, by omega⟩)
    (by unfold s4 wroteS; rw [line3]; decide)
  have H7 := Lib.hid (H6.out.trans (hg7.trans (goes_of_kept hk8 (by simp))))
  clear hd7 hg7 hwr hk8
  go_wp2_with fail
  refine hcr.mono ?_
  rintro e w8 ⟨rfl, hd8, hk8⟩
  have hsy := sync_any w.heap.size s5 F7 w8 hd8 (by rw [show s5.line = [] from (settled_flags (keepOf [1]) s4.line 0 { s4 with on := false, fuse := -1 }).2.2.2.1]; decide)
  rw [sync5.1, sync5.2] at hsy
  have H8 := Lib.hid (H7.out.trans (goes_of_kept hk8 (fun k hk => hk)))
  clear hd8 hk8 hcr
  go_wp2_with fail
  refine hsy.mono ?_
  rintro e w9 ⟨rfl, hd9, hk9⟩
  have hre := restore_any w.heap.size s5 F7 w9 hd9 (by rw [most5]; decide)
  have hm9 := hd9.mem
  have H9 := Lib.hid (H8.out.trans (goes_of_kept hk9 (fun k hk => hk)))
  clear hd9 hk9 hsy
  go_wp2_with fail
  refine hre.mono ?_
  rintro e w10 ⟨rfl, hd10, hk10⟩
  have hrd := read_any w.heap.size s7 F7 0 w10 hd10
  rw [read7.1, read7.2] at hrd
  have H10 := Lib.hid (H9.out.trans (goes_of_kept hk10 (by simpa using hm9)))
  clear hd10 hk10 hre
  go_wp2_with fail
  refine hrd.mono ?_
  rintro e w11 ⟨rfl, hb11⟩
  have hfin : Below w.heap.size w w11 := by
    have hk : Kept [w.heap.size] w1 w11 := H10.out.1.then_ (G := []) (Kept.of_below hb11) (by simp)
    exact H1.out.trans (hk.below H1.out.size (by simp))
  have HFIN := Lib.hid hfin
  clear hb11 hfin hrd
  have e0 : ((page.size : Int) == 256) = true := by rw [page_size]; rfl
  have b0 := byte0
  have b1 := byte1
  have b31 := byte31
  have b32 := byte32
  have b44 := byte44
  go_wp2
  go_ret
  exact ⟨rfl, HFIN.out⟩
end Go.Proofs.Ytlmhhoijbebcbaa
