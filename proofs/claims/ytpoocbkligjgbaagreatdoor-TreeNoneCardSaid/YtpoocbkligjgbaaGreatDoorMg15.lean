/-
  The document's own answer: rising numbers; one taken out.
-/
import Derived.Test.YtpoocbkligjgbaaGreatDoorMg14
namespace Go.Proofs.YtpoocbkligjgbaaGreatDoor
open Go.RowKit

set_option maxRecDepth 100000 in
set_option maxHeartbeats 2000000 in
theorem refSorted_any {w : World} {v : Value} {l : List Int} (h : Reads1 w w.heap.size v (l.map (.int .i64))) (hl : l.length ≤ 50000) :
    Calls Tryz.prog 83 #[v] w fun e w' => ∃ v' m, e = .returned v' ∧ m.Perm l ∧ m.Pairwise (· ≤ ·) ∧ w'.ownsRow w.heap.size 3 1 v' m.length (cellsI m) ∧ Below w.heap.size w w' := by
  obtain ⟨A, c, rfl, hc⟩ := h
  simp only [List.length_map] at hc ⊢
  obtain ⟨n, hn⟩ : ∃ n, l.length = n := ⟨_, rfl⟩
  rw [hn] at hl hc ⊢
  have HL := Lib.hid (And.intro hc hn)
  clear hc hn
  go_enter Tryz.func83, Tryz.ntmps83
  go_wp2_with fail
  go_loopg [3, 4] n (fun g ov i wr => ∃ (k : Nat) (m : List Int), i = .int .i64 k ∧ k + g = n ∧ m.Perm (l.take k) ∧ m.Pairwise (· ≤ ·) ∧ wr.ownsRow w.heap.size 3 1 ov m.length (cellsI m) ∧ Below w.heap.size w wr)
  case atStart => exact ⟨0, [], rfl, by omega, List.Perm.refl _, List.Pairwise.nil, World.ownsRow_nil _ _ _ _, Below.refl _ _⟩
  case round =>
    obtain ⟨k, m, rfl, hkg, hperm, hsort, hrow, hbl⟩ := hrel
    obtain ⟨hc, hn⟩ := HL.out
    by_cases hlt : k < n
    · obtain ⟨b, off, rfl, hbb, hcell⟩ := hc (by omega)
      have hkl : k < l.length := by omega
      have hq : wr.cell? ⟨b, off + k, none⟩ = some (.int .i64 l[k]) := (hbl.cell (p := ⟨b, off + k, none⟩) hbb).trans (hcell k _ (by simp [hkl]))
      have hml : m.length ≤ 50000 := by rw [hperm.length_eq, List.length_take]; omega
      have htk : l.take (k + 1) = l.take k ++ [l[k]] := List.take_succ_eq_append_getElem hkl
      generalize l[k] = y at *
      have k1 : (k : Int) < n := by omega
      have k0 : (0 : Int) ≤ k := by omega
      have hput := refPut_any (w := wr) y (RdI.row hrow) (by omega)
      have HR := Lib.hid (And.intro hperm (And.intro hsort (And.intro hbl htk)))
      clear hc hn hbb hcell hperm hsort hrow hbl htk hml
      go_wp2_with fail
      refine hput.mono ?_
      rintro e w1 ⟨v1, m1, rfl, hin, hrow1, hb1⟩
      obtain ⟨hperm, hsort, hbl, htk⟩ := HR.out
      have hp1 : m1.Perm (l.take (k + 1)) := by
        rw [htk]
        exact hin.perm.trans ((List.Perm.cons y hperm).trans (List.perm_append_comm (l₁ := [y])))
      have HQ := Lib.hid (And.intro hp1 (And.intro (hin.sorted hsort) (And.intro (row_raise (row_base0 hrow1) (fun g hg => Nat.le_trans hbl.size (hrow1.lt g hg).1)) (hbl.trans (hb1.mono hbl.size)))))
      clear hp1 hput hin hrow1 hb1 hperm hsort hbl htk HR hq
      go_wp2_with fail
      go_roundg (n - (k + 1))
      case measure => omega
      case rel => exact ⟨k + 1, m1, by go_num, by omega, HQ.out.1, HQ.out.2.1, HQ.out.2.2.1, HQ.out.2.2.2⟩
    · obtain rfl : k = n := by omega
      have HR := Lib.hid (And.intro hperm (And.intro hsort (And.intro hrow (And.intro hbl hn))))
      clear hc hn hperm hsort hrow hbl
      go_wp2_with fail
      go_ret
      obtain ⟨h1, h2, h3, h4, h5⟩ := HR.out
      refine ⟨_, m, rfl, ?_, h2, h3, h4⟩
      rwa [← h5, List.take_length] at h1
end Go.Proofs.YtpoocbkligjgbaaGreatDoor
