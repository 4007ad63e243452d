/-
  Walks: Sync, Crash. A device's calls, each by one contract.
-/
import Derived.Test.YtmcfldcpmjdfbaaGreatDoorMg20
import Derived.Shelf.Abstract
namespace Go.Proofs.YtmcfldcpmjdfbaaGreatDoor
open Go.RowKit Go.Lib

set_option maxHeartbeats 400000 in
theorem sync1_any (n : Int) (w : World) : Calls Tryz.prog 58 #[.int .i64 n] w fun e w' => e = .returned (.int .i64 255) ∧ w = w' := by
  go_enter Tryz.func58, Tryz.ntmps58
  go_wp2
  go_ret
  exact ⟨rfl, rfl⟩

/-- v is a slice that reads as the values xs, in a block that is none of F's. -/
def Reads2 (w : World) (F : List Nat) (v : Value) (xs : List Value) : Prop :=
  ∃ (A : Option Addr) (c : Nat), v = .slice A xs.length c ∧ (0 < xs.length → ∃ b off, A = some ⟨b, off, none⟩ ∧ b < w.heap.size ∧ b ∉ F ∧ ∀ (j : Nat) (u : Value), xs[j]? = some u → w.cell? ⟨b, off + j, none⟩ = some u)
theorem Reads2.kept {w w' : World} {F G : List Nat} {v : Value} {xs : List Value} (h : Reads2 w F v xs) (hk : Kept G w w') (hG : ∀ k ∈ G, k ∈ F ∨ w.heap.size ≤ k) : Reads2 w' F v xs := by
  obtain ⟨A, c, rfl, h⟩ := h
  refine ⟨A, c, rfl, fun hn => ?_⟩
  obtain ⟨b, off, rfl, h1, h2, h3⟩ := h hn
  refine ⟨b, off, rfl, Nat.lt_of_lt_of_le h1 hk.size, h2, fun j u hu => (hk.cell (p := ⟨b, off + j, none⟩) h1 (fun hb => ?_)).trans (h3 j u hu)⟩
  rcases hG b hb with h4 | h4
  · exact h2 h4
  · omega
theorem Reads2.sub {w : World} {F G : List Nat} {v : Value} {xs : List Value} (h : Reads2 w F v xs) (hG : ∀ k ∈ G, k ∈ F ∨ w.heap.size ≤ k) : Reads2 w G v xs := by
  obtain ⟨A, c, rfl, h⟩ := h
  refine ⟨A, c, rfl, fun hn => ?_⟩
  obtain ⟨b, off, rfl, h1, h2, h3⟩ := h hn
  refine ⟨b, off, rfl, h1, fun hb => ?_, h3⟩
  rcases hG b hb with h4 | h4
  · exact h2 h4
  · omega
theorem Reads1.off {w : World} {B : Nat} {F : List Nat} {v : Value} {xs : List Value} (h : Reads1 w B v xs) (hB : B ≤ w.heap.size) (hF : ∀ k ∈ F, B ≤ k) : Reads2 w F v xs := by
  obtain ⟨A, c, rfl, h⟩ := h
  refine ⟨A, c, rfl, fun hn => ?_⟩
  obtain ⟨b, off, rfl, h1, h3⟩ := h hn
  exact ⟨b, off, rfl, by omega, fun hb => by have := hF b hb; omega, h3⟩
theorem Reads2.built (w : World) (t : TypeId) (cs : Array Value) (F : List Nat) (hF : ∀ k ∈ F, k < w.heap.size) : Reads2 (w.alloc (.cells cs t)) F (.slice (some ⟨w.heap.size, 0, none⟩) cs.size cs.size) cs.toList := by
  refine ⟨some ⟨w.heap.size, 0, none⟩, cs.size, by simp, fun _ => ⟨w.heap.size, 0, rfl, by simp, fun hb => by have := hF _ hb; omega, fun j u hu => ?_⟩⟩
  rw [Nat.zero_add, (Has.made w t cs).cell j]
  simpa using hu

/-- The keep of a place. -/
def keepOf (l : List Int) (i : Nat) : Int := l.getD i 0


/-- What Sync leaves, where there is power. -/
def syncedS (s : DevS) : DevS := settled (fun _ => 255) 0 s.line s
/-- What a crash leaves. -/
def crashS (s : DevS) (l : List Int) : DevS := settled (keepOf l) 0 s.line { s with on := false, fuse := -1 }

set_option maxHeartbeats 400000 in
theorem sync_nil (w : World) : Calls Tryz.prog 24 #[.pointer none] w fun e w' => e = .returned (.int .i64 14) ∧ w = w' := by
  go_enter Tryz.func24, Tryz.ntmps24
  go_wp2_with (go_at_call 54; refine (powered_nil _).mono ?_; rintro e w' ⟨rfl, rfl⟩)
  go_ret
  exact ⟨rfl, rfl⟩

set_option maxRecDepth 1000000 in
set_option maxHeartbeats 400000 in
theorem sync_off (p : Nat) (s : DevS) (F : List Nat) (w : World) (h : DevAt w p s F) (hoff : (powS s).on = false) :
    Calls Tryz.prog 24 #[.pointer (some ⟨p, 0, none⟩)] w fun e w' => e = .returned (.int .i64 14) ∧ DevAt w' p (powS s) F ∧ Kept F w w' := by
  have hp := powered_any p s F w h
  rw [hoff] at hp
  have hm := h.mem
  clear h hoff
  go_enter Tryz.func24, Tryz.ntmps24
  go_wp2_with fail
  refine hp.mono ?_
  rintro e w1 ⟨rfl, hd, hk⟩
  have HX := Lib.hid (And.intro hd hk)
  clear hd hk hp
  go_wp2
  go_ret
  exact ⟨rfl, HX.out.1, HX.out.2.mono (by simpa using .inl hm)⟩

set_option maxRecDepth 1000000 in
set_option maxHeartbeats 400000 in
theorem sync_on (p : Nat) (s : DevS) (F : List Nat) (w : World) (h : DevAt w p s F) (hon : (powS s).on = true) (hl : s.line.length ≤ 100000000000) :
    Calls Tryz.prog 24 #[.pointer (some ⟨p, 0, none⟩)] w fun e w' => e = .returned (.int .i64 0) ∧ DevAt w' p (syncedS (powS s)) F ∧ Kept F w w' := by
  have hp := powered_any p s F w h
  rw [hon] at hp
  have hm := h.mem
  have hl1 : (powS s).line.length ≤ 100000000000 := by
    have : (powS s).line = s.line := by unfold powS; split <;> first | rfl | (split <;> rfl)
    rw [this]
    exact hl
  generalize powS s = s1 at *
  clear h hon hl
  go_enter Tryz.func24, Tryz.ntmps24
  go_wp2_with fail
  refine hp.mono ?_
  rintro e w1 ⟨rfl, hd, hk⟩
  have hs := settle_any p s1 F 58 #[] (fun _ => 255) w1 hd hl1 (fun _ => by unfold IsInt; omega) (enters_of Tryz.func58 (by kernel_rfl) rfl) (fun i w' _ _ => sync1_any i w')
  have HX := Lib.hid (And.intro hd hk)
  clear hd hk hp hl1
  go_wp2_with fail
  refine hs.mono ?_
  rintro e w2 ⟨rfl, hd2, hk2⟩
  have HY := Lib.hid (And.intro hd2 hk2)
  clear hd2 hk2 hs
  go_wp2
  go_ret
  exact ⟨rfl, HY.out.1, (HX.out.2.mono (by simpa using .inl hm)).trans HY.out.2⟩


end Go.Proofs.YtmcfldcpmjdfbaaGreatDoor

namespace Go.Proofs.YtmcfldcpmjdfbaaGreatDoor
open Go.RowKit Go.Lib

def growAE (s : DevS) (n : Int) : Int := if (powS s).on = true then growE (powS s) n else 14
def growAS (s : DevS) (n : Int) : DevS := if (powS s).on = true then growS (powS s) n else powS s
theorem grow_any (p : Nat) (s : DevS) (F : List Nat) (n : Int) (w : World) (h : DevAt w p s F) :
    Calls Tryz.prog 47 #[.pointer (some ⟨p, 0, none⟩), .int .i64 n] w (DevTo p (growAS s n) (.int .i64 (growAE s n)) F w) := by
  unfold growAE growAS
  by_cases hon : (powS s).on = true
  · rw [if_pos hon, if_pos hon]
    exact grow_on p s F n w h hon
  · rw [if_neg hon, if_neg hon]
    exact grow_off p s F n w h (by simpa using hon)

def syncAE (s : DevS) : Int := if (powS s).on = true then 0 else 14
def syncAS (s : DevS) : DevS := if (powS s).on = true then syncedS (powS s) else powS s
theorem sync_any (p : Nat) (s : DevS) (F : List Nat) (w : World) (h : DevAt w p s F) (hl : s.line.length ≤ 100000000000) :
    Calls Tryz.prog 24 #[.pointer (some ⟨p, 0, none⟩)] w fun e w' => e = .returned (.int .i64 (syncAE s)) ∧ DevAt w' p (syncAS s) F ∧ Kept F w w' := by
  unfold syncAE syncAS
  by_cases hon : (powS s).on = true
  · rw [if_pos hon, if_pos hon]
    exact sync_on p s F w h hon hl
  · rw [if_neg hon, if_neg hon]
    exact sync_off p s F w h (by simpa using hon)

/-- A device that has power, and no fuse. -/
structure Idle (s : DevS) : Prop where
  on : s.on = true
  fuse : s.fuse = -1
theorem Idle.pow {s : DevS} (h : Idle s) : powS s = s := by unfold powS; rw [if_pos h.on, if_pos h.fuse]
theorem Idle.write {s : DevS} (h : Idle s) {n : Int} {d : ByteArray} (h0 : 0 ≤ n) (h1 : n < s.pages.length) (h2 : d.size = 256) : writeE s n d = 0 ∧ writeS s n d = wroteS s n d ∧ Idle (wroteS s n d) := by
  have hf : faultE s n d = 0 := by unfold faultE; rw [if_pos ⟨h0, h1⟩, if_pos h2]
  unfold writeE writeS
  rw [h.pow, if_pos h.on, if_pos h.on, if_pos h.on, if_pos hf]
  exact ⟨hf, rfl, h.on, h.fuse⟩
theorem Idle.sync {s : DevS} (h : Idle s) : syncAE s = 0 ∧ syncAS s = syncedS s := by
  unfold syncAE syncAS
  rw [h.pow, if_pos h.on, if_pos h.on]
  exact ⟨rfl, rfl⟩
theorem Idle.grow {s : DevS} (h : Idle s) (n : Int) : growAE s n = growE s n ∧ growAS s n = growS s n := by
  unfold growAE growAS
  rw [h.pow, if_pos h.on, if_pos h.on]
  exact ⟨rfl, rfl⟩
theorem newS_idle (n : Int) : Idle (newS n) := ⟨rfl, rfl⟩
theorem longer_idle {s : DevS} (h : Idle s) (k : Nat) : Idle (longer s k) := ⟨h.on, h.fuse⟩
/-- A crash, and power again: what of a device a settling does not touch. -/
theorem settled_flags (keep : Nat → Int) : ∀ (r : List (Int × ByteArray)) (i : Nat) (s : DevS), (settled keep i r s).on = s.on ∧ (settled keep i r s).fuse = s.fuse ∧ (settled keep i r s).most = s.most ∧ (settled keep i r s).line = [] ∧
    (settled keep i r s).pages.length = s.pages.length ∧ (settled keep i r s).synced.length = s.synced.length ∧ (settled keep i r s).cap = s.cap
  | [], _, _ => ⟨rfl, rfl, rfl, rfl, rfl, rfl, rfl⟩
  | (n, d) :: r, i, s => by
    obtain ⟨a, b, c, e, f, g, h⟩ := settled_flags keep r (i + 1) (settle1 s n d (keep i))
    unfold settled
    exact ⟨a, b, c, e, by rw [f]; simp [settle1], by rw [g]; simp [settle1], h⟩
theorem synced_idle {s : DevS} (h : Idle s) : Idle (syncedS s) := by
  obtain ⟨a, b, _⟩ := settled_flags (fun _ => 255) s.line 0 s
  exact ⟨a.trans h.on, b.trans h.fuse⟩

/-- The page of a byte b, as a text. -/
def filledB (b k : Nat) : ByteArray := ⟨(filled b k).toArray⟩
theorem filledB_size (b k : Nat) : (filledB b k).size = 256 := by
  show (filled b k).toArray.size = 256
  rw [List.size_toArray, filled_length]
end Go.Proofs.YtmcfldcpmjdfbaaGreatDoor
