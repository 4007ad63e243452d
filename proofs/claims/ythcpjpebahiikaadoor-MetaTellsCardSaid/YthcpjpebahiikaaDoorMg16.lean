/-
  Walks: Sync, Crash. A device's calls, each by one contract. What a crash leaves of each page: its writes one behind the other, each in the sectors that stay.
-/
import Derived.Test.YthcpjpebahiikaaDoorMg15
import Derived.Shelf.Abstract
namespace Go.Proofs.YthcpjpebahiikaaDoor
open Go.RowKit Go.Lib


/-- v is a slice that reads as the values xs, in a block that is none of F's. -/
def Reads2 (w : World) (F : List Nat) (v : Value) (xs : List Value) : Prop :=
  ∃ (A : Option Addr) (c : Nat), v = .slice A xs.length c ∧ (0 < xs.length → ∃ b off, A = some ⟨b, off, none⟩ ∧ b < w.heap.size ∧ b ∉ F ∧ ∀ (j : Nat) (u : Value), xs[j]? = some u → w.cell? ⟨b, off + j, none⟩ = some u)
theorem Reads2.kept {w w' : World} {F G : List Nat} {v : Value} {xs : List Value} (h : Reads2 w F v xs) (hk : Kept G w w') (hG : ∀ k ∈ G, k ∈ F ∨ w.heap.size ≤ k) : Reads2 w' F v xs := by
  obtain ⟨A, c, rfl, h⟩ := h
  refine ⟨A, c, rfl, fun hn => ?_⟩
  obtain ⟨b, off, rfl, h1, h2, h3⟩ := h hn
  refine ⟨b, off, rfl, Nat.lt_of_lt_of_le h1 hk.size, h2, fun j u hu => (hk.cell (p := ⟨b, off + j, none⟩) h1 (fun hb => ?_)).trans (h3 j u hu)⟩
  rcases hG b hb with h4 | h4
  · exact h2 h4
  · omega
theorem Reads1.off {w : World} {B : Nat} {F : List Nat} {v : Value} {xs : List Value} (h : Reads1 w B v xs) (hB : B ≤ w.heap.size) (hF : ∀ k ∈ F, B ≤ k) : Reads2 w F v xs := by
  obtain ⟨A, c, rfl, h⟩ := h
  refine ⟨A, c, rfl, fun hn => ?_⟩
  obtain ⟨b, off, rfl, h1, h3⟩ := h hn
  exact ⟨b, off, rfl, by omega, fun hb => by have := hF b hb; omega, h3⟩








end Go.Proofs.YthcpjpebahiikaaDoor

namespace Go.Proofs.YthcpjpebahiikaaDoor
open Go.RowKit Go.Lib

def growAE (s : DevS) (n : Int) : Int := if (powS s).on = true then growE (powS s) n else 14
def growAS (s : DevS) (n : Int) : DevS := if (powS s).on = true then growS (powS s) n else powS s
theorem grow_any (p : Nat) (s : DevS) (F : List Nat) (n : Int) (w : World) (h : DevAt w p s F) :
    Calls Tryd.prog 13 #[.pointer (some ⟨p, 0, none⟩), .int .i64 n] w (DevTo p (growAS s n) (.int .i64 (growAE s n)) F w) := by
  unfold growAE growAS
  by_cases hon : (powS s).on = true
  · rw [if_pos hon, if_pos hon]
    exact grow_on p s F n w h hon
  · rw [if_neg hon, if_neg hon]
    exact grow_off p s F n w h (by simpa using hon)


/-- A device that has power, and no fuse. -/
structure Idle (s : DevS) : Prop where
  on : s.on = true
  fuse : s.fuse = -1
theorem Idle.pow {s : DevS} (h : Idle s) : powS s = s := by unfold powS; rw [if_pos h.on, if_pos h.fuse]
theorem Idle.write {s : DevS} (h : Idle s) {n : Int} {d : ByteArray} (h0 : 0 ≤ n) (h1 : n < s.pages.length) (h2 : d.size = 256) : writeE s n d = 0 ∧ writeS s n d = wroteS s n d ∧ Idle (wroteS s n d) := by
  have hf : faultE s n d = 0 := by unfold faultE; rw [if_pos ⟨h0, h1⟩, if_pos h2]
  unfold writeE writeS
  rw [h.pow, if_pos h.on, if_pos h.on, if_pos h.on, if_pos hf]
  exact ⟨hf, rfl, h.on, h.fuse⟩
theorem Idle.grow {s : DevS} (h : Idle s) (n : Int) : growAE s n = growE s n ∧ growAS s n = growS s n := by
  unfold growAE growAS
  rw [h.pow, if_pos h.on, if_pos h.on]
  exact ⟨rfl, rfl⟩
theorem newS_idle (n : Int) : Idle (newS n) := ⟨rfl, rfl⟩
theorem longer_idle {s : DevS} (h : Idle s) (k : Nat) : Idle (longer s k) := ⟨h.on, h.fuse⟩

/-- The page of a byte b, as a text. -/
def filledB (b k : Nat) : ByteArray := ⟨(filled b k).toArray⟩
theorem filledB_size (b k : Nat) : (filledB b k).size = 256 := by
  show (filled b k).toArray.size = 256
  rw [List.size_toArray, filled_length]
end Go.Proofs.YthcpjpebahiikaaDoor

namespace Go.Proofs.YthcpjpebahiikaaDoor
open Go.RowKit Go.Lib






theorem filledB_any (b k : Nat) (w : World) (hb : b < 256) : Calls Tryd.prog 20 #[.int .u8 b, .int .i64 k] w fun e w' => e = .returned (.string (filledB b k)) ∧ Below w.heap.size w w' := filled_any b k w hb

/-- v is a []string of the call's own, from block base on, that holds the texts l. -/
def Texts (w : World) (base : Nat) (v : Value) (l : List ByteArray) : Prop := w.ownsRow base 9 1 v l.length (l.map Value.string)
theorem Texts.nil_ (w : World) (base : Nat) : Texts w base (.slice none 0 0) [] := World.ownsRow_nil w base 9 1
theorem Texts.kept {w w' : World} {base : Nat} {v : Value} {l : List ByteArray} {F : List Nat} (h : Texts w base v l) (k : Kept F w w') (hn : ∀ i ∈ F, i < base ∨ w.heap.size ≤ i) : Texts w' base v l :=
  row_kept h k (fun g e hg => by have := World.ownsRow.lt h g e; have := hn g hg; omega)

end Go.Proofs.YthcpjpebahiikaaDoor
