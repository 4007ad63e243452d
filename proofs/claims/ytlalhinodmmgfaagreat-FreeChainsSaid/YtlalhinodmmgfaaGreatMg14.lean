/-
  Numbers out of the bodies of pages: the free pages' own Unchain, and the document's.
-/
import Derived.Test.YtlalhinodmmgfaaGreatMg10
import Derived.Test.YtlalhinodmmgfaaGreatMg13
namespace Go.Proofs.YtlalhinodmmgfaaGreat
open Go.RowKit

def numAt (s : ByteArray) (k : Nat) : Int := ((unleb ((s.data.toList.drop (4 * k)).take 4) : Nat) : Int)
def numsTo (s : ByteArray) (k : Nat) : List Int := (List.range k).map (numAt s)
/-- The numbers that bodies hold, four bytes each. -/
def unch (B : List ByteArray) : List Int := B.flatMap fun s => numsTo s (s.size / 4)
theorem numsTo_succ (s : ByteArray) (k : Nat) : numsTo s (k + 1) = numsTo s k ++ [numAt s k] := by simp [numsTo, List.range_succ]
theorem length_numsTo (s : ByteArray) (k : Nat) : (numsTo s k).length = k := by simp [numsTo]
theorem unch_snoc (B : List ByteArray) (s : ByteArray) : unch (B ++ [s]) = unch B ++ numsTo s (s.size / 4) := by simp [unch]
theorem unch_few : ∀ B : List ByteArray, (∀ s ∈ B, s.size ≤ 6000) → (unch B).length ≤ B.length * 1500
  | [], _ => by simp [unch]
  | s :: B, h => by
    have ih := unch_few B (fun x hx => h x (List.mem_cons_of_mem _ hx))
    have hs := h s (List.mem_cons_self ..)
    have : unch (s :: B) = numsTo s (s.size / 4) ++ unch B := by simp [unch]
    rw [this, List.length_append, length_numsTo, List.length_cons]
    omega

set_option maxRecDepth 100000 in
set_option maxHeartbeats 2000000 in
theorem funchain_any {w : World} {v : Value} {B : List ByteArray} (h : Reads1 w w.heap.size v (B.map .string)) (hl : B.length ≤ 100) (hs : ∀ s ∈ B, s.size ≤ 6000) :
    Calls Tryz.prog 10 #[v] w fun e w' => (((∀ s ∈ B, s.size % 4 = 0) ∧ ∃ v', e = .returned (.tuple #[v', .int .i64 0]) ∧ w'.ownsRow w.heap.size 3 1 v' (unch B).length (cellsI (unch B))) ∨ ((¬ ∀ s ∈ B, s.size % 4 = 0) ∧ e = .returned (.tuple #[.slice none 0 0, .int .i64 4]))) ∧ Below w.heap.size w w' := by
  obtain ⟨A, c, rfl, hc⟩ := h
  simp only [List.length_map] at hc ⊢
  obtain ⟨n, hn⟩ : ∃ n, B.length = n := ⟨_, rfl⟩
  rw [hn] at hl hc ⊢
  have HL := Lib.hid (And.intro hc (And.intro hn hs))
  clear hc hn hs
  go_enter Tryz.func10, Tryz.ntmps10
  go_wp2_with fail
  go_loopg [4, 12] n (fun g ov iv wr => ∃ j : Nat, iv = .int .i64 j ∧ j + g = n ∧ (∀ s ∈ B.take j, s.size % 4 = 0) ∧ wr.ownsRow w.heap.size 3 1 ov (unch (B.take j)).length (cellsI (unch (B.take j))) ∧ Below w.heap.size w wr)
  case atStart => exact ⟨0, rfl, by omega, by simp, World.ownsRow_nil _ _ _ _, Below.refl _ _⟩
  case round =>
    obtain ⟨j, rfl, hjg, hall, hrow, hbl⟩ := hrel
    obtain ⟨hc, hn, hs⟩ := HL.out
    by_cases hlt : j < n
    · obtain ⟨b, off, rfl, hbb, hcell⟩ := hc (by omega)
      have hjl : j < B.length := by omega
      have hq : wr.cell? ⟨b, off + j, none⟩ = some (.string B[j]) := (hbl.cell (p := ⟨b, off + j, none⟩) hbb).trans (hcell j _ (by simp [hjl]))
      have htk : B.take (j + 1) = B.take j ++ [B[j]] := List.take_succ_eq_append_getElem hjl
      have hsz : B[j].size ≤ 6000 := hs _ (List.getElem_mem hjl)
      have hmem : B[j] ∈ B := List.getElem_mem hjl
      have hfew := unch_few (B.take j) (fun s hm => hs s (List.mem_of_mem_take hm))
      rw [List.length_take, Nat.min_eq_left (by omega)] at hfew
      generalize B[j] = s at *
      have k1 : (j : Int) < n := by omega
      have k0 : (0 : Int) ≤ j := by omega
      obtain ⟨z, hz⟩ : ∃ z, s.size = z := ⟨_, rfl⟩
      have hjI := Lib.hid hjg
      by_cases h4 : z % 4 = 0
      · have h4b : (((z : Int) % 4) != 0) = false := by simp; omega
        have HR := Lib.hid (And.intro hall (And.intro htk (And.intro hfew (And.intro hsz (And.intro hz h4)))))
        have HW := Lib.hid (And.intro hrow hbl)
        clear hc hn hs hbb hcell hall htk hfew hsz hmem hrow hbl hjg
        go_wp2_with fail
        obtain ⟨wo, rfl⟩ : ∃ wo : World, wo = wr := ⟨_, rfl⟩
        obtain ⟨K, hK⟩ : ∃ K, z / 4 = K := ⟨_, rfl⟩
        have hz4 : z = 4 * K := by omega
        have hKs : K ≤ 1500 := by have := HR.out.2.2.2.1; have := HR.out.2.2.2.2.1; omega
        go_loopg [4, 7] K (fun g ov av wx => ∃ k y : Nat, av = .int .i64 y ∧ y = 4 * k ∧ k + g = K ∧ wx.ownsRow w.heap.size 3 1 ov ((unch (B.take j)).length + k) (cellsI (unch (B.take j) ++ numsTo s k)) ∧ Below w.heap.size w wx)
        case atStart => exact ⟨0, 0, rfl, rfl, by omega, by simpa [numsTo] using HW.out.1, HW.out.2⟩
        case round =>
          obtain ⟨k, y, rfl, hy, hkg, hrow, hbl⟩ := hrel
          have hzs := HR.out.2.2.2.2.1
          by_cases hkK : k < K
          · have y1 : (y : Int) < (s.size : Int) := by omega
            have y0 : (0 : Int) ≤ y := by omega
            have y2 : (y : Int) ≤ 6000 := by omega
            have hun := unfix_ok s y 4 wr (by omega) (by omega) (by omega) (by omega)
            have hnu : ((unleb ((s.data.toList.drop y).take 4) : Nat) : Int) = numAt s k := by rw [hy]; rfl
            have hns := numsTo_succ s k
            rw [hnu] at hun
            obtain ⟨pl, hpl⟩ : ∃ n, (unch (B.take j)).length = n := ⟨_, rfl⟩
            have hpl2 : pl ≤ 150000 := by rw [← hpl]; have := HR.out.2.2.1; omega
            rw [hpl] at hrow
            generalize numAt s k = x at *
            obtain ⟨i0, hi0, hzz0, hzz1, hzz2⟩ := info_parts Tryz.infoInt
            have hra := World.ownsRow.alloc (row_base0 hrow) (.cells #[.int .i64 x] 3)
            have hgr := fun g hg => (hrow.lt g hg).1
            have HW2 := Lib.hid (And.intro hgr (And.intro hbl (And.intro hy (And.intro hkg (And.intro hns hpl)))))
            clear hrow hbl hy hkg hzs hnu hz4 hK hns hgr hpl
            go_wp2_with fail
            refine hun.mono ?_
            rintro e w1 ⟨rfl, rfl⟩
            clear hun
            go_wp2_with (at_builtin; refine wpList_append_keeps rfl _ _ 22 3 i0 (.int .i64 0) 1 8 Tryz.underlying22 hi0 hzz0 hzz1 hzz2 rfl (by decide) rfl _ u4 (pl + k) _ rfl hra ⟨wr.heap.size, 0, none⟩ 1 1 rfl [.int .i64 x] rfl (cell_one_new _ _ _) (by intro u hu; simp at hu; subst hu; rfl) (by omega) (by unfold maxLen; omega) (by omega) ?_; intro v' w' hown' hgn)
            go_roundg (K - (k + 1))
            case measure => have := HW2.out.2.2.2.1; omega
            case rel =>
              obtain ⟨hgr, hb, hy, hkg, hns, hpl⟩ := HW2.out
              have hal : Below wr.heap.size wr (wr.alloc (.cells #[.int .i64 x] 3)) := (Below.refl _ _).alloc (Nat.le_refl _) _
              obtain ⟨hb2, hg2⟩ := hgn.below (base := w.heap.size) (Nat.le_trans hb.size hal.size) hgr
              refine ⟨k + 1, y + 4, by go_num, by omega, by omega, ?_, (hb.trans (hal.mono hb.size)).trans hb2⟩
              have h5 := row_raise hown' hg2
              rw [hns, hpl, ← Nat.add_assoc, ← List.append_assoc, cellsI_append _ [x]]
              exact h5
          · obtain rfl : k = K := by omega
            have hye : (y : Int) = (s.size : Int) := by omega
            have HW2 := Lib.hid (And.intro hrow hbl)
            clear hrow hbl hy hkg
            go_wp2_with fail
            go_roundg (n - (j + 1))
            case measure => have := hjI.out; omega
            case rel =>
              obtain ⟨hall, htk, hfew, hsz, hz, h4⟩ := HR.out
              refine ⟨j + 1, by go_num, by omega, ?_, ?_, HW2.out.2⟩
              · intro s' hs'
                rw [htk] at hs'
                rcases List.mem_append.1 hs' with h | h
                · exact hall s' h
                · obtain rfl : s' = s := by simpa using h
                  rw [hz]; exact h4
              · rw [htk, unch_snoc, List.length_append, length_numsTo, hz, hK]
                exact HW2.out.1
      · have h4b : (((z : Int) % 4) != 0) = true := by simp; omega
        have hno : ¬ ∀ s ∈ B, s.size % 4 = 0 := fun hh => h4 (by rw [← hz]; exact hh s hmem)
        have HR := Lib.hid (And.intro hno hbl)
        clear hc hn hs hbb hcell hall htk hfew hsz hmem hrow hbl hjg hno
        go_wp2_with fail
        go_ret2
        exact ⟨.inr ⟨HR.out.1, rfl⟩, HR.out.2⟩
    · obtain rfl : j = n := by omega
      have HR := Lib.hid (And.intro hall (And.intro hrow (And.intro hbl hn)))
      clear hc hn hs hall hrow hbl
      go_wp2_with fail
      go_ret2
      obtain ⟨h1, h2, h3, h4⟩ := HR.out
      rw [← h4, List.take_length] at h1 h2
      exact ⟨.inl ⟨h1, _, rfl, h2⟩, h3⟩
end Go.Proofs.YtlalhinodmmgfaaGreat
