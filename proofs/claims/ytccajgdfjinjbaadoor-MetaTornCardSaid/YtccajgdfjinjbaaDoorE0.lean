/-
  A device's calls, each by one contract.
-/
import Derived.Test.YtccajgdfjinjbaaDoorD6
namespace Go.Proofs.YtccajgdfjinjbaaDoor
open Go.RowKit Go.Lib

def growAE (s : DevS) (n : Int) : Int := if (powS s).on = true then growE (powS s) n else 14
def growAS (s : DevS) (n : Int) : DevS := if (powS s).on = true then growS (powS s) n else powS s
theorem grow_any (p : Nat) (s : DevS) (F : List Nat) (n : Int) (w : World) (h : DevAt w p s F) :
    Calls Tryd.prog 15 #[.pointer (some ⟨p, 0, none⟩), .int .i64 n] w (DevTo p (growAS s n) (.int .i64 (growAE s n)) F w) := by
  unfold growAE growAS
  by_cases hon : (powS s).on = true
  · rw [if_pos hon, if_pos hon]
    exact grow_on p s F n w h hon
  · rw [if_neg hon, if_neg hon]
    exact grow_off p s F n w h (by simpa using hon)

def syncAE (s : DevS) : Int := if (powS s).on = true then 0 else 14
def syncAS (s : DevS) : DevS := if (powS s).on = true then syncedS (powS s) else powS s
theorem sync_any (p : Nat) (s : DevS) (F : List Nat) (w : World) (h : DevAt w p s F) (hl : s.line.length ≤ 100000000000) :
    Calls Tryd.prog 22 #[.pointer (some ⟨p, 0, none⟩)] w fun e w' => e = .returned (.int .i64 (syncAE s)) ∧ DevAt w' p (syncAS s) F ∧ Kept F w w' := by
  unfold syncAE syncAS
  by_cases hon : (powS s).on = true
  · rw [if_pos hon, if_pos hon]
    exact sync_on p s F w h hon hl
  · rw [if_neg hon, if_neg hon]
    exact sync_off p s F w h (by simpa using hon)

/-- A device that has power, and no fuse. -/
structure Idle (s : DevS) : Prop where
  on : s.on = true
  fuse : s.fuse = -1
theorem Idle.pow {s : DevS} (h : Idle s) : powS s = s := by unfold powS; rw [if_pos h.on, if_pos h.fuse]
theorem Idle.write {s : DevS} (h : Idle s) {n : Int} {d : ByteArray} (h0 : 0 ≤ n) (h1 : n < s.pages.length) (h2 : d.size = 256) : writeE s n d = 0 ∧ writeS s n d = wroteS s n d ∧ Idle (wroteS s n d) := by
  have hf : faultE s n d = 0 := by unfold faultE; rw [if_pos ⟨h0, h1⟩, if_pos h2]
  unfold writeE writeS
  rw [h.pow, if_pos h.on, if_pos h.on, if_pos h.on, if_pos hf]
  exact ⟨hf, rfl, h.on, h.fuse⟩
theorem Idle.sync {s : DevS} (h : Idle s) : syncAE s = 0 ∧ syncAS s = syncedS s := by
  unfold syncAE syncAS
  rw [h.pow, if_pos h.on, if_pos h.on]
  exact ⟨rfl, rfl⟩
theorem Idle.grow {s : DevS} (h : Idle s) (n : Int) : growAE s n = growE s n ∧ growAS s n = growS s n := by
  unfold growAE growAS
  rw [h.pow, if_pos h.on, if_pos h.on]
  exact ⟨rfl, rfl⟩
theorem newS_idle (n : Int) : Idle (newS n) := ⟨rfl, rfl⟩
theorem longer_idle {s : DevS} (h : Idle s) (k : Nat) : Idle (longer s k) := ⟨h.on, h.fuse⟩
/-- A crash, and power again: what of a device a settling does not touch. -/
theorem settled_flags (keep : Nat → Int) : ∀ (r : List (Int × ByteArray)) (i : Nat) (s : DevS), (settled keep i r s).on = s.on ∧ (settled keep i r s).fuse = s.fuse ∧ (settled keep i r s).most = s.most ∧ (settled keep i r s).line = [] ∧
    (settled keep i r s).pages.length = s.pages.length ∧ (settled keep i r s).synced.length = s.synced.length ∧ (settled keep i r s).cap = s.cap
  | [], _, _ => ⟨rfl, rfl, rfl, rfl, rfl, rfl, rfl⟩
  | (n, d) :: r, i, s => by
    obtain ⟨a, b, c, e, f, g, h⟩ := settled_flags keep r (i + 1) (settle1 s n d (keep i))
    unfold settled
    exact ⟨a, b, c, e, by rw [f]; simp [settle1], by rw [g]; simp [settle1], h⟩
theorem synced_idle {s : DevS} (h : Idle s) : Idle (syncedS s) := by
  obtain ⟨a, b, _⟩ := settled_flags (fun _ => 255) s.line 0 s
  exact ⟨a.trans h.on, b.trans h.fuse⟩

/-- The page of a byte b, as a text. -/
def filledB (b k : Nat) : ByteArray := ⟨(filled b k).toArray⟩
theorem filledB_size (b k : Nat) : (filledB b k).size = 256 := by
  show (filled b k).toArray.size = 256
  rw [List.size_toArray, filled_length]
end Go.Proofs.YtccajgdfjinjbaaDoor
