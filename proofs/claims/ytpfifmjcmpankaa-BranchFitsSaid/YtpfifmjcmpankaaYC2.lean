/-
  Walks over package branch: copied.
-/
import Derived.Test.YtpfifmjcmpankaaYC1
import Derived.Test.YtpfifmjcmpankaaX2
namespace Go.Proofs.Ytpfifmjcmpankaa.BR
open Go.RowKit Go.Lib

theorem row_same {w : World} {base : Nat} {e : TypeId} {size g cap n : Nat} {xs : List Value} (h : w.ownsRow base e size (.slice (some ⟨g, 0, none⟩) n cap) n xs) {j : Nat} {u : Value} (hu : xs[j]? = some u) :
    (w.setCell ⟨g, j, none⟩ u).ownsRow base e size (.slice (some ⟨g, 0, none⟩) n cap) n xs := by
  have h1 := (h.stored j u).1
  have hj := (List.getElem?_eq_some_iff.1 hu)
  obtain ⟨hlt, e1⟩ := hj
  have e2 : xs.set j u = xs := by rw [← e1]; exact List.set_getElem_self hlt
  rw [e2] at h1
  exact h1

set_option maxRecDepth 100000 in
set_option maxHeartbeats 2000000 in
theorem copied_any (v : Value) (P : List (Value × List Chd)) (w : World) (hr : Reads1 w w.heap.size v (P.map fun p => p.1)) (hp : ∀ p ∈ P, ReadsIt w w.heap.size p.1 p.2) (hl : (flatI P).length ≤ 1000000) (hn : P.length ≤ 1000)
    (hz : ∀ x ∈ flatI P, x.key.size ≤ 281474976710656) :
    Calls Try.prog 24 #[v] w fun e w' => ∃ v', e = .returned v' ∧ w'.ownsRow w.heap.size 24 2 v' (flatI P).length (ilist (flatI P)) ∧ Below w.heap.size w w' := by
  have hcc := concat_any v P w hr hp hl hn
  obtain ⟨A, c, rfl, _⟩ := hr
  simp only [List.length_map] at hcc ⊢
  generalize flatI P = L at *
  obtain ⟨N, hN⟩ : ∃ N, L.length = N := ⟨_, rfl⟩
  rw [hN] at hcc hl ⊢
  have HN := Lib.hid (And.intro hN hz)
  clear hN hz hp
  go_enter Try.func24, Try.ntmps24
  go_wp2_with fail
  refine hcc.mono ?_
  rintro e w1 ⟨v1, rfl, hown1, hb1⟩
  have hform : ∃ A1 c1, v1 = .slice A1 N c1 := by
    rcases hown1.2 with ⟨rfl, rfl⟩ | ⟨g, cap, cur, rfl, _⟩
    · exact ⟨none, 0, rfl⟩
    · exact ⟨_, _, rfl⟩
  obtain ⟨A1, c1, rfl⟩ := hform
  have HO := Lib.hid (And.intro hown1 hb1)
  have hN1 : (N : Int) ≤ 1000000 := by omega
  clear hown1 hb1 hcc
  go_wp2_with fail
  go_loopw [9] (fun iv wr => ∃ k : Nat, k ≤ N ∧ iv = .int .i64 k ∧ wr.ownsRow w.heap.size 24 2 (.slice A1 N c1) N (ilist L) ∧ Below w.heap.size w wr) (fun iv _ => N - (RowKit.intOf iv).toNat)
  case atStart => exact ⟨0, Nat.zero_le _, rfl, HO.out.1, HO.out.2⟩
  case round =>
    obtain ⟨k, hk, rfl, hown, hbl⟩ := hrel
    have hbs := hbl.size
    by_cases hlt : k < N
    · have hkl : k < L.length := by rw [HN.out.1]; exact hlt
      have hg : ∃ g, A1 = some ⟨g, 0, none⟩ := by
        rcases hown.2 with ⟨_, h0⟩ | ⟨g, cap, cur, h, _⟩
        · omega
        · cases h; exact ⟨g, rfl⟩
      obtain ⟨g, rfl⟩ := hg
      have hx := HN.out.2 L[k] (by simp)
      have a0 : (ilist L)[k * 2]? = some (.string L[k].key) := ilist_at hkl 0 (by omega)
      have hk0 : (0 : Int) ≤ k := by omega
      have hkN : (k : Int) < N := by omega
      generalize L[k] = x at *
      have hc1 := fun W => tclone_any x.key hx W
      -- what is held of the row in every world where nothing that was there has turned
      have hS1 : ∀ W, Below wr.heap.size wr W → W.ownsRow w.heap.size 24 2 (.slice (some ⟨g, 0, none⟩) N c1) N (ilist L) := fun W hb => row_kept (F := []) hown (Kept.of_below hb) (fun _ _ h => by simp at h)
      have HS1 := Lib.hid hS1
      have HC := Lib.hid hc1
      have HA := Lib.hid a0
      have c0 : wr.cell? ⟨g, k * 2, none⟩ = some (.string x.key) := (hown.cellAt (k * 2) (by omega)).trans a0
      have HBL := Lib.hid (And.intro hown hbl)
      clear hc1 hS1 a0 hown hbl hx hkl
      go_wp2_with fail
      refine (HC.out _).mono ?_
      rintro e w2 ⟨rfl, hb2⟩
      have hown3 := HS1.out _ hb2
      have q0 : w2.cell? ⟨g, k * 2, none⟩ = some (.string x.key) := (hown3.cellAt (k * 2) (by omega)).trans HA.out
      have q1 := hown3.frozenAt (k * 2)
      have hown4 := row_same hown3 HA.out
      have HF := Lib.hid (And.intro hown4 (And.intro hb2 hown3))
      clear hown3 hown4 hb2 c0
      go_wp2_with fail
      obtain ⟨h5, h6, h7⟩ := HF.out
      have hgg := (h7.lt g rfl).1
      go_roundw
      case rel =>
        refine ⟨k + 1, by omega, by go_num, h5, ?_⟩
        have h8 : Below w.heap.size w w2 := HBL.out.2.trans (h6.mono hbs)
        exact h8.setCell (p := ⟨g, k * 2, none⟩) hgg _
      case measure => simp [RowKit.intOf]; omega
    · obtain rfl : k = N := by omega
      go_wp2_with fail
      go_ret
      exact ⟨_, rfl, hown, hbl⟩
end Go.Proofs.Ytpfifmjcmpankaa.BR
