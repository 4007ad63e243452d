/-
  The statements' book: a list of items with room behind it, in which a mark stands.
-/
import Derived.Test.YtpfifmjcmpankaaGreatMg34
import Derived.Test.YtpfifmjcmpankaaGreatMg25
import Derived.Test.YtpfifmjcmpankaaGreatMg23
import Derived.Test.YtpfifmjcmpankaaGreatMg40
namespace Go.Proofs.YtpfifmjcmpankaaGreat.BI
open Go.RowKit

def markC : Itm := ⟨⟨#[]⟩, ⟨#[]⟩, -77, 0⟩
/-- v is a row of the items l, in a block from lo up to hi. -/
def InI (lo hi : Nat) (w : World) (v : Value) (l : List Itm) : Prop := OwnI 0 w v l ∧ ∀ g, v.ownBlock = some g → lo ≤ g ∧ g < hi
/-- v is a list of the items l with room behind them, and there the mark. -/
def LentI (lo hi : Nat) (w : World) (l : List Itm) (v : Value) : Prop := ∃ A c, v = .slice A l.length c ∧ InI lo hi w (.slice A (l ++ [markC]).length c) (l ++ [markC])
section
variable {lo hi : Nat} {w w' : World} {l : List Itm} {v : Value}
theorem InI.of {base : Nat} (h : OwnI base w v l) : InI base w.heap.size w v l := ⟨row_lower h (Nat.zero_le _), World.ownsRow.lt h⟩
theorem InI.wide {lo' hi' : Nat} (h : InI lo hi w v l) (h1 : lo' ≤ lo) (h2 : hi ≤ hi') : InI lo' hi' w v l := ⟨h.1, fun g hg => by have := h.2 g hg; omega⟩
theorem InI.kept {F : List Nat} (h : InI lo hi w v l) (k : Kept F w w') (hF : ∀ g ∈ F, g < lo ∨ hi ≤ g) : InI lo hi w' v l :=
  ⟨row_kept h.1 k fun g hg hin => by have h1 := h.2 g hg; rcases hF g hin with h2 | h2 <;> omega, h.2⟩
theorem InI.on (h : InI lo hi w v l) (hb : Below w.heap.size w w') : InI lo hi w' v l := h.kept (F := []) (Kept.of_below hb) (fun g hg => by cases hg)
theorem LentI.kept {F : List Nat} (h : LentI lo hi w l v) (k : Kept F w w') (hF : ∀ g ∈ F, g < lo ∨ hi ≤ g) : LentI lo hi w' l v := by
  obtain ⟨A, c, rfl, h⟩ := h
  exact ⟨A, c, rfl, h.kept k hF⟩
theorem LentI.on (h : LentI lo hi w l v) (hb : Below w.heap.size w w') : LentI lo hi w' l v := h.kept (F := []) (Kept.of_below hb) (fun g hg => by cases hg)
theorem LentI.reads (h : LentI lo hi w l v) : ReadsIt w w.heap.size v l := by
  obtain ⟨A, c, rfl, h⟩ := h
  have h1 := reads_high h.1.reads (k := l.length) (by simp)
  rwa [List.take_left] at h1
end

set_option maxRecDepth 1000000 in
set_option maxHeartbeats 400000 in
theorem lent_any (v : Value) (l : List Itm) (w : World) (hr : ReadsIt w w.heap.size v l) (hl : l.length ≤ 100000) :
    Calls Tryz.prog 7 #[v] w fun e w' => ∃ v', e = .returned v' ∧ LentI w.heap.size w'.heap.size w' l v' ∧ Below w.heap.size w w' := by
  have HR := Lib.hid hr
  obtain ⟨A, c, rfl⟩ := hr.form
  clear hr
  go_enter Tryz.func7, Tryz.ntmps7
  go_wp2_with (at_builtin; first
    | (refine append_its rfl _ _ rfl w.heap.size w (.slice none 0 0) [] rfl (World.ownsRow_nil _ _ _ _) _ (.slice A l.length c) rfl l HR.out (by simp; omega) (Nat.le_refl _) ?_; intro v1 w1 hown1 hb1; have hrx := ReadsIt.built w1 [markC] (by unfold maxLen; simp); have hl1 : l.length + [markC].length ≤ 1000000 := by simp; omega)
    | (refine append_its rfl _ _ rfl w.heap.size _ v1 l rfl (World.ownsRow.alloc hown1 _) _ (.slice (some ⟨w1.heap.size, 0, none⟩) 1 1) rfl [markC] hrx hl1 (by have := hb1.size; simp; omega) ?_; intro v2 w2 hown2 hb2; obtain ⟨A2, c2, hA2, hlc2, _⟩ := row_readsIt hown2; subst hA2; have hlc3 : l.length ≤ c2 := (by simp at hlc2; omega)))
  go_ret
  exact ⟨_, rfl, ⟨A2, c2, rfl, InI.of hown2⟩, hb1.trans (((Below.refl _ _).alloc hb1.size _).trans hb2)⟩
set_option maxRecDepth 1000000 in
set_option maxHeartbeats 800000 in
theorem stays_any (lo hi : Nat) (v1 v2 : Value) (l : List Itm) (w : World) (h1 : LentI lo hi w l v1) (h2 : ReadsIt w w.heap.size v2 l) (hl : l.length ≤ 100000) :
    Calls Tryz.prog 16 #[v1, v2] w fun e w' => e = .returned (.bool true) ∧ Below w.heap.size w w' := by
  have hsame := sameItems_any v1 v2 l w h1.reads h2 (by omega)
  obtain ⟨A, c, rfl, h1⟩ := h1
  obtain ⟨A', c', hv, hc1, _, hn, hc⟩ := h1.1.reads
  simp only [Value.slice.injEq] at hv
  obtain ⟨rfl, _, rfl⟩ := hv
  obtain ⟨b, off, rfl, hlt, hcell⟩ := hc (by simp)
  have hck := (hcell l.length (by simp)).2.2.1
  simp only [List.length_append, List.length_singleton, List.getElem_concat_length] at hck hc1
  have hrH := run_high (some ⟨b, off, none⟩) l.length c (l.length + 1) hc1
  clear h1 h2 hcell hc hn
  go_enter Tryz.func16, Tryz.ntmps16
  go_wp2_with fail
  refine hsame.mono ?_
  rintro e w1 ⟨rfl, hb1⟩
  have hck1 := (hb1.cell (p := ⟨b, off + l.length * 4 + 2, none⟩) hlt).trans hck
  have hlc : (l.length : Int) + 1 ≤ (c : Int) := by omega
  go_wp2
  go_ret
  exact ⟨rfl, hb1⟩
end Go.Proofs.YtpfifmjcmpankaaGreat.BI
