/-
  The statements' book, of lists of numbers: is each marked?
-/
import Derived.Test.YtjimjemogbphaaaGreatMg8
namespace Go.Proofs.YtjimjemogbphaaaGreat
open Go.RowKit

theorem row_below {w w' : World} {base : Nat} {e : TypeId} {k : Nat} {v : Value} {n : Nat} {xs : List Value} (h : w.ownsRow base e k v n xs) (hb : Below w.heap.size w w') : w'.ownsRow 0 e k v n xs := row_kept (F := []) (row_base0 h) (Kept.of_below hb) (fun g _ hF => by simp at hF)

/-- A list that reads as xs, from the beginning of its block on. -/
def ReadsL (w : World) (v : Value) (n : Nat) (xs : List Value) : Prop :=
  ∃ A c, v = .slice A n c ∧ (0 < n → ∃ g, A = some ⟨g, 0, none⟩ ∧ g < w.heap.size ∧ ∀ q u, xs[q]? = some u → w.cell? ⟨g, q, none⟩ = some u)
section
variable {w w' : World} {v : Value} {n : Nat} {xs : List Value}
theorem ReadsL.of {base : Nat} {e : TypeId} {k : Nat} (h : w.ownsRow base e k v n xs) : ReadsL w v n xs := by
  have hc := @World.ownsRow.cells _ _ _ _ _ _ _ h
  have hlt := h.lt
  rcases h.2 with ⟨rfl, rfl⟩ | ⟨g, cap, cur, rfl, _⟩
  · exact ⟨none, 0, rfl, fun h0 => by omega⟩
  · exact ⟨_, _, rfl, fun _ => ⟨g, rfl, (hlt g rfl).2, fun q u hu => by
      have h1 := hc rfl q u hu
      rwa [Go.WideShapes.add_plain, Nat.zero_add] at h1⟩⟩
theorem ReadsL.kept {F : List Nat} (h : ReadsL w v n xs) (hk : Kept F w w') (hn : ∀ g, v.ownBlock = some g → g ∉ F) : ReadsL w' v n xs := by
  obtain ⟨A, c, rfl, h1⟩ := h
  refine ⟨A, c, rfl, fun h0 => ?_⟩
  obtain ⟨g, rfl, hg, hc⟩ := h1 h0
  exact ⟨g, rfl, Nat.lt_of_lt_of_le hg hk.size, fun q u hu => (hk.cell (p := ⟨g, q, none⟩) hg (hn g rfl)).trans (hc q u hu)⟩
theorem ReadsL.below (h : ReadsL w v n xs) (hb : Below w.heap.size w w') : ReadsL w' v n xs := h.kept (F := []) (Kept.of_below hb) (fun g _ hF => by simp at hF)
theorem ReadsL.reads1 (h : ReadsL w v xs.length xs) : Reads1 w w.heap.size v xs := by
  obtain ⟨A, c, rfl, h1⟩ := h
  refine ⟨A, c, rfl, fun h0 => ?_⟩
  obtain ⟨g, rfl, hg, hc⟩ := h1 h0
  exact ⟨g, 0, rfl, hg, fun q u hu => by rw [Nat.zero_add]; exact hc q u hu⟩
end

set_option maxRecDepth 100000 in
set_option maxHeartbeats 2000000 in
theorem markedInts_any {w : World} {ov : Value} {n : Nat} {us : Nat → Value} {tl : Nat → Nat} (ho : ReadsL w ov n ((List.range n).map us)) (hr : ∀ j, j < n → ReadsL w (us j) (tl j) (cellsI (marksI j 0 (tl j)))) (hn : n ≤ 250) (hx : ∀ j, j < n → tl j ≤ 1000000) :
    Calls Tryz.prog 86 #[ov] w fun e w' => e = .returned (.bool true) ∧ Below w.heap.size w w' := by
  obtain ⟨A1, c1, rfl, ho⟩ := ho
  have HP := Lib.hid (And.intro ho (And.intro hr hx))
  clear ho hr hx
  go_enter Tryz.func86, Tryz.ntmps86
  go_wp2_with fail
  go_loopg [3] n (fun g i wr => ∃ k : Nat, i = .int .i64 k ∧ k + g = n ∧ Below w.heap.size w wr)
  case atStart => exact ⟨0, rfl, by omega, Below.refl _ _⟩
  case round =>
    obtain ⟨k, rfl, hkg, hbw⟩ := hrel
    obtain ⟨ho, hr, hx⟩ := HP.out
    by_cases hlt : k < n
    · obtain ⟨g1, rfl, hg1, hoc⟩ := ho (by omega)
      have hrk := (hr k hlt).below hbw
      have hxk := hx k hlt
      obtain ⟨A3, c3, e3, h3⟩ := hrk
      have q2 : wr.cell? ⟨g1, k, none⟩ = some (.slice A3 (tl k) c3) := by
        refine (hbw.cell (p := ⟨g1, k, none⟩) hg1).trans (hoc k _ ?_)
        simp [hlt, e3]
      have hrk : ReadsL wr (.slice A3 (tl k) c3) (tl k) (cellsI (marksI k 0 (tl k))) := ⟨A3, c3, rfl, h3⟩
      clear e3 h3
      have hlg : g1 < wr.heap.size := Nat.lt_of_lt_of_le hg1 hbw.size
      generalize tl k = m at *
      have hmk := markInts_any k 0 m wr.drew (by omega) (by omega) (by omega)
      have hS : wr.drew.cell? ⟨g1, k, none⟩ = some (.slice A3 m c3) := q2
      have HB := Lib.hid (And.intro hbw (And.intro (show ReadsL wr.drew (.slice A3 m c3) m (cellsI (marksI k 0 m)) from hrk.kept (F := []) (Kept.refl _ _).drew (fun g _ hF => by simp at hF)) hxk))
      have HM := Lib.hid hmk
      have k0 : (0 : Int) ≤ k := by omega
      have k1 : (k : Int) < n := by omega
      have hm1 : (m : Int) ≤ 1000000 := by omega
      clear hr hx q2 hbw hmk hrk hxk hg1 hoc ho
      go_wp2_with fail
      refine wp_region_tills (fun w' => w'.cell? ⟨g1, k, none⟩ = some (.slice A3 m c3)) 11 (by kernel_rfl) ?_
      refine till_takeAt 10 (i := 0) (v := .slice (some ⟨g1, 0, none⟩) n c1) rfl rfl (by kernel_rfl) (by kernel_rfl) (by kernel_rfl) (by kernel_rfl) (by kernel_rfl) (fun _ _ _ h => h) (Or.inl ⟨by rfl, fun w' hw' => by obtain q1 := hw'; go_simp⟩) hS ?_
      simp only [List.setIfInBounds_toArray, List.set_cons_zero, List.set_cons_succ]
      refine till_takeAt 11 (i := 1) (v := .int .i64 k) rfl rfl (by kernel_rfl) (by kernel_rfl) (by kernel_rfl) (by kernel_rfl) (by kernel_rfl) (fun _ _ _ h => h) (Or.inl ⟨by rfl, fun w' hw' => by obtain q1 := hw'; go_simp⟩) hS ?_
      simp only [List.setIfInBounds_toArray, List.set_cons_zero, List.set_cons_succ]
      refine till_takeAt 12 (i := 2) (v := .pointer (some ⟨g1, k, none⟩)) rfl rfl (by kernel_rfl) (by kernel_rfl) (by kernel_rfl) (by kernel_rfl) (by kernel_rfl) (fun _ _ _ h => h) (Or.inl ⟨by rfl, fun w' hw' => by obtain q1 := hw'; go_simp⟩) hS ?_
      simp only [List.setIfInBounds_toArray, List.set_cons_zero, List.set_cons_succ]
      refine till_takeAt 13 (i := 3) (v := .slice A3 m c3) rfl rfl (by kernel_rfl) (by kernel_rfl) (by kernel_rfl) (by kernel_rfl) (by kernel_rfl) (fun _ _ _ h => h) (Or.inl ⟨by rfl, fun w' hw' => by obtain q1 := hw'; go_simp⟩) hS ?_
      simp only [List.setIfInBounds_toArray, List.set_cons_zero, List.set_cons_succ]
      refine till_takeAt 14 (i := 4) (v := .int .i64 k) rfl rfl (by kernel_rfl) (by kernel_rfl) (by kernel_rfl) (by kernel_rfl) (by kernel_rfl) (fun _ _ _ h => h) (Or.inl ⟨by rfl, fun w' hw' => by obtain q1 := hw'; go_simp⟩) hS ?_
      simp only [List.setIfInBounds_toArray, List.set_cons_zero, List.set_cons_succ]
      refine till_takeAt 15 (i := 5) (v := .slice (some ⟨g1, 0, none⟩) n c1) rfl rfl (by kernel_rfl) (by kernel_rfl) (by kernel_rfl) (by kernel_rfl) (by kernel_rfl) (fun _ _ _ h => h) (Or.inl ⟨by rfl, fun w' hw' => by obtain q1 := hw'; go_simp⟩) hS ?_
      simp only [List.setIfInBounds_toArray, List.set_cons_zero, List.set_cons_succ]
      refine till_takeAt 16 (i := 6) (v := .int .i64 k) rfl rfl (by kernel_rfl) (by kernel_rfl) (by kernel_rfl) (by kernel_rfl) (by kernel_rfl) (fun _ _ _ h => h) (Or.inl ⟨by rfl, fun w' hw' => by obtain q1 := hw'; go_simp⟩) hS ?_
      simp only [List.setIfInBounds_toArray, List.set_cons_zero, List.set_cons_succ]
      refine till_takeAt 17 (i := 7) (v := .pointer (some ⟨g1, k, none⟩)) rfl rfl (by kernel_rfl) (by kernel_rfl) (by kernel_rfl) (by kernel_rfl) (by kernel_rfl) (fun _ _ _ h => h) (Or.inl ⟨by rfl, fun w' hw' => by obtain q1 := hw'; go_simp⟩) hS ?_
      simp only [List.setIfInBounds_toArray, List.set_cons_zero, List.set_cons_succ]
      refine till_takeAt 18 (i := 8) (v := .slice A3 m c3) rfl rfl (by kernel_rfl) (by kernel_rfl) (by kernel_rfl) (by kernel_rfl) (by kernel_rfl) (fun _ _ _ h => h) (Or.inl ⟨by rfl, fun w' hw' => by obtain q1 := hw'; go_simp⟩) hS ?_
      simp only [List.setIfInBounds_toArray, List.set_cons_zero, List.set_cons_succ]
      refine till_takeAt 19 (i := 9) (v := .int .i64 m) rfl rfl (by kernel_rfl) (by kernel_rfl) (by kernel_rfl) (by kernel_rfl) (by kernel_rfl) (fun _ _ _ h => h) (Or.inl ⟨by rfl, fun w' hw' => by obtain q1 := hw'; go_simp⟩) hS ?_
      simp only [List.setIfInBounds_toArray, List.set_cons_zero, List.set_cons_succ]
      refine till_one (i := 10) (by kernel_rfl) rfl rfl (fun K hK => ?_)
      go_simp
      refine HM.out.mono ?_
      rintro e w1 ⟨mv, rfl, hmr, hb1⟩
      refine hK _ _ ⟨fun _ => (hb1.cell (p := ⟨g1, k, none⟩) hlg).trans hS, ?_⟩
      clear hK K hS hlg
      obtain ⟨hbw, hrk, hxk⟩ := HB.out
      have hb1' : Below wr.drew.heap.size wr.drew w1 := hb1
      have hrk1 := hrk.below hb1'
      have hsm := sameInts_any _ _ (marksI k 0 m) w1 (ReadsL.reads1 (by rw [show (List.map (Value.int .i64) (marksI k 0 m)).length = m by simp [length_marksI]]; exact hrk1)) (row_reads1 hmr) (by rw [length_marksI]; exact hxk)
      have HB1 := Lib.hid (show Below w.heap.size w w1 from hbw.trans (Below.mono ⟨hb1.os, hb1.tape, hb1.output, hb1.size, hb1.block⟩ hbw.size))
      clear hbw hrk hxk hb1 hb1' hrk1 hmr
      refine till_one (i := 11) (by kernel_rfl) rfl rfl (fun K hK => ?_)
      go_simp
      refine hsm.mono ?_
      rintro e w2 ⟨rfl, hb2⟩
      refine hK _ _ ⟨fun h => absurd h (by omega), ?_⟩
      clear hK K
      have HB2 := Lib.hid (HB1.out.trans (hb2.mono HB1.out.size))
      clear hsm hb2
      refine till_one (i := 12) (by kernel_rfl) rfl rfl (fun K hK => ?_)
      go_simp
      refine hK _ _ ⟨fun h => absurd h (by omega), till_done (by kernel_rfl) ?_ _⟩
      clear hK K
      go_wp2
      go_roundg (n - (k + 1))
      case measure => omega
      case rel => exact ⟨k + 1, by go_num, by omega, HB2.out⟩
    · obtain rfl : k = n := by omega
      have HB := Lib.hid hbw
      clear ho hr hx hbw
      go_wp2_with fail
      go_ret
      exact ⟨rfl, HB.out⟩
end Go.Proofs.YtjimjemogbphaaaGreat
