/-
  The statements' book: a list of children with room behind it, in which a mark stands.
-/
import Derived.Test.YtpfifmjcmpankaaGreatMg33
import Derived.Test.YtpfifmjcmpankaaGreatMg24
import Derived.Test.YtpfifmjcmpankaaGreatMg38
namespace Go.Proofs.YtpfifmjcmpankaaGreat.BR.BC
open Go.RowKit

def markC : Chd := ⟨⟨#[]⟩, -77⟩
/-- v is a list of the children l with room behind them, and there the mark; in a block that is made since base. -/
def LentC (base : Nat) (w : World) (l : List Chd) (v : Value) : Prop := ∃ A c, v = .slice A l.length c ∧ OwnC base w (.slice A (l ++ [markC]).length c) (l ++ [markC])
section
variable {base : Nat} {w w' : World} {l : List Chd} {v : Value}
theorem LentC.kept {F : List Nat} (h : LentC base w l v) (k : Kept F w w') (hF : ∀ g ∈ F, g < base ∨ w.heap.size ≤ g) : LentC base w' l v := by
  obtain ⟨A, c, rfl, h⟩ := h
  refine ⟨A, c, rfl, row_kept h k fun g hg hin => ?_⟩
  have h1 := World.ownsRow.lt h g hg
  rcases hF g hin with h2 | h2 <;> omega
theorem LentC.on (h : LentC base w l v) (hb : Below w.heap.size w w') : LentC base w' l v := h.kept (F := []) (Kept.of_below hb) (fun g hg => by cases hg)
theorem LentC.reads (h : LentC base w l v) : ReadsIt w w.heap.size v l := by
  obtain ⟨A, c, rfl, h⟩ := h
  have h1 := reads_high h.reads (k := l.length) (by simp)
  rwa [List.take_left] at h1
end

set_option maxRecDepth 1000000 in
set_option maxHeartbeats 400000 in
theorem lent_any (v : Value) (l : List Chd) (w : World) (hr : ReadsIt w w.heap.size v l) (hl : l.length ≤ 100000) :
    Calls Tryz.prog 30 #[v] w fun e w' => ∃ v', e = .returned v' ∧ LentC w.heap.size w' l v' ∧ Below w.heap.size w w' := by
  have HR := Lib.hid hr
  obtain ⟨A, c, rfl⟩ := hr.form
  clear hr
  go_enter Tryz.func30, Tryz.ntmps30
  go_wp2_with (at_builtin; first
    | (refine append_its rfl _ _ rfl w.heap.size w (.slice none 0 0) [] rfl (World.ownsRow_nil _ _ _ _) _ (.slice A l.length c) rfl l HR.out (by simp; omega) (Nat.le_refl _) ?_; intro v1 w1 hown1 hb1; have hrx := ReadsIt.built w1 [markC] (by unfold maxLen; simp); have hl1 : l.length + [markC].length ≤ 1000000 := by simp; omega)
    | (refine append_its rfl _ _ rfl w.heap.size _ v1 l rfl (World.ownsRow.alloc hown1 _) _ (.slice (some ⟨w1.heap.size, 0, none⟩) 1 1) rfl [markC] hrx hl1 (by have := hb1.size; simp; omega) ?_; intro v2 w2 hown2 hb2; obtain ⟨A2, c2, hA2, hlc2, _⟩ := row_readsIt hown2; subst hA2; have hlc3 : l.length ≤ c2 := (by simp at hlc2; omega)))
  go_ret
  exact ⟨_, rfl, ⟨A2, c2, rfl, hown2⟩, hb1.trans (((Below.refl _ _).alloc hb1.size _).trans hb2)⟩
set_option maxRecDepth 1000000 in
set_option maxHeartbeats 800000 in
theorem stays_any (base : Nat) (v1 v2 : Value) (l : List Chd) (w : World) (h1 : LentC base w l v1) (h2 : ReadsIt w w.heap.size v2 l) (hl : l.length ≤ 100000) :
    Calls Tryz.prog 47 #[v1, v2] w fun e w' => e = .returned (.bool true) ∧ Below w.heap.size w w' := by
  have hsame := sameItems_any v1 v2 l w h1.reads h2 (by omega)
  obtain ⟨A, c, rfl, h1⟩ := h1
  obtain ⟨A', c', hv, hc1, _, hn, hc⟩ := h1.reads
  simp only [Value.slice.injEq] at hv
  obtain ⟨rfl, _, rfl⟩ := hv
  obtain ⟨b, off, rfl, hlt, hcell⟩ := hc (by simp)
  have hck := (hcell l.length (by simp)).2
  simp only [List.length_append, List.length_singleton, List.getElem_concat_length] at hck hc1
  have hrH := run_high (some ⟨b, off, none⟩) l.length c (l.length + 1) hc1
  clear h1 h2 hcell hc hn
  go_enter Tryz.func47, Tryz.ntmps47
  go_wp2_with fail
  refine hsame.mono ?_
  rintro e w1 ⟨rfl, hb1⟩
  have hck1 := (hb1.cell (p := ⟨b, off + l.length * 2 + 1, none⟩) hlt).trans hck
  have hlc : (l.length : Int) + 1 ≤ (c : Int) := by omega
  go_wp2
  go_ret
  exact ⟨rfl, hb1⟩
end Go.Proofs.YtpfifmjcmpankaaGreat.BR.BC
