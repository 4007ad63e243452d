/-
  The document's own free pages: Take, Back, Unpin, All. The document's own free pages: Back, All. The document's own free pages: All.
-/
import Derived.Test.YtjimjemogbphaaaGreatMg20
namespace Go.Proofs.YtjimjemogbphaaaGreat
open Go.RowKit

def wcells (u : Int × Int) : List Value := [.int .i64 u.1, .int .i64 u.2]
def wlist (W : List (Int × Int)) : List Value := W.flatMap wcells
theorem length_wlist (W : List (Int × Int)) : (wlist W).length = W.length * 2 := by
  induction W with
  | nil => rfl
  | cons d r ih => unfold wlist at *; rw [List.flatMap_cons, List.length_append, ih]; simp [wcells]; omega
theorem wlist_append (l m : List (Int × Int)) : wlist (l ++ m) = wlist l ++ wlist m := by unfold wlist; rw [List.flatMap_append]
theorem wlist_at : ∀ (l : List (Int × Int)) (i j : Nat) (d : Int × Int), l[i]? = some d → j < 2 → (wlist l)[i * 2 + j]? = (wcells d)[j]?
  | [], _, _, _, h, _ => by simp at h
  | x :: r, 0, j, d, h, hj => by
    obtain rfl : x = d := by simpa using h
    unfold wlist
    rw [List.flatMap_cons, List.getElem?_append_left (by simp [wcells]; omega)]
    simp
  | x :: r, i + 1, j, d, h, hj => by
    have ih := wlist_at r i j d (by simpa using h) hj
    unfold wlist at *
    rw [List.flatMap_cons, List.getElem?_append_right (by simp [wcells]; omega)]
    rw [show (i + 1) * 2 + j - (wcells x).length = i * 2 + j by simp [wcells]; omega]
    exact ih

def rfr (vL vW vP : Value) : List Nat := vL.ownBlock.toList ++ vW.ownBlock.toList ++ vP.ownBlock.toList
def rffoot (p : Nat) (vL vW vP : Value) : List Nat := p :: rfr vL vW vP

/-- The document's free pages at p: L are free, W wait, P are pinned. -/
structure RFr (w : World) (p : Nat) (vL vW vP : Value) (L : List Int) (W : List (Int × Int)) (P : List Int) : Prop where
  has : Has w p 31 #[vL, vW, vP]
  l : RdI w vL L
  wt : w.ownsRow 0 90 2 vW W.length (wlist W)
  pi : RdI w vP P
  ne : ∀ g ∈ rfr vL vW vP, g ≠ p

theorem RdI.lt {w : World} {v : Value} {l : List Int} (h : RdI w v l) (g : Nat) (hg : v.ownBlock = some g) : g < w.heap.size := by
  rcases h with ⟨rfl, _⟩ | ⟨b, off, c, rfl, _, hb, _⟩
  · simp [Value.ownBlock] at hg
  · simp [Value.ownBlock] at hg
    omega
theorem RdI.form {w : World} {v : Value} {l : List Int} (h : RdI w v l) : ∃ A c, v = .slice A l.length c := by
  rcases h with ⟨rfl, rfl⟩ | ⟨b, off, c, rfl, _⟩
  · exact ⟨none, 0, rfl⟩
  · exact ⟨_, _, rfl⟩

section
variable {w w' : World} {p : Nat} {vL vW vP vL' vW' vP' : Value} {L L' : List Int} {W W' : List (Int × Int)} {P P' : List Int}
theorem mem_rfr {g : Nat} : g ∈ rfr vL vW vP ↔ vL.ownBlock = some g ∨ vW.ownBlock = some g ∨ vP.ownBlock = some g := by
  simp [rfr]
theorem RFr.lt (h : RFr w p vL vW vP L W P) : ∀ g ∈ rffoot p vL vW vP, g < w.heap.size := by
  intro g hg
  rcases List.mem_cons.1 hg with rfl | hg
  · exact h.has.inside
  · rcases mem_rfr.1 hg with h1 | h1 | h1
    · exact h.l.lt g h1
    · exact (h.wt.lt g h1).2
    · exact h.pi.lt g h1
theorem RFr.kept {F : List Nat} (h : RFr w p vL vW vP L W P) (hk : Kept F w w') (hd : ∀ g ∈ rffoot p vL vW vP, g ∉ F) : RFr w' p vL vW vP L W P :=
  ⟨h.has.kept hk (hd p (by simp [rffoot])), h.l.kept hk (fun g hg => hd g (List.mem_cons_of_mem _ (mem_rfr.2 (.inl hg)))), row_kept h.wt hk (fun g hg => hd g (List.mem_cons_of_mem _ (mem_rfr.2 (.inr (.inl hg))))), h.pi.kept hk (fun g hg => hd g (List.mem_cons_of_mem _ (mem_rfr.2 (.inr (.inr hg))))), h.ne⟩
theorem RFr.below (h : RFr w p vL vW vP L W P) (hb : Below w.heap.size w w') : RFr w' p vL vW vP L W P := h.kept (F := []) (Kept.of_below hb) (by simp)

/-- What a call leaves. -/
def REnd (w : World) (p : Nat) (vL vW vP : Value) (L' : List Int) (W' : List (Int × Int)) (P' : List Int) (w' : World) : Prop :=
  ∃ vL' vW' vP', RFr w' p vL' vW' vP' L' W' P' ∧ Goes (rffoot p vL vW vP) w (rffoot p vL' vW' vP') w'

/-- Another list of free ones. -/
theorem RFr.setL {u : Value} (h : RFr w p vL vW vP L W P) (hb : Below w.heap.size w w') (hr : RdI w' u L') (hu : ∀ g, u.ownBlock = some g → vL.ownBlock = some g ∨ w.heap.size ≤ g) :
    RFr (w'.setCell ⟨p, 0, none⟩ u) p u vW vP L' W P ∧ Goes (rffoot p vL vW vP) w (rffoot p u vW vP) (w'.setCell ⟨p, 0, none⟩ u) := by
  have h' := h.below hb
  have hlt := h.lt
  have hne : ∀ g ∈ rfr u vW vP, g ≠ p := fun g hg => by
    rcases mem_rfr.1 hg with h1 | h1
    · rcases hu g h1 with h2 | h2
      · exact h.ne g (mem_rfr.2 (.inl h2))
      · have := hlt p (by simp [rffoot])
        omega
    · exact h.ne g (mem_rfr.2 (.inr h1))
  have hk : Kept [p] w' (w'.setCell ⟨p, 0, none⟩ u) := (Kept.refl _ _).setCell (p := ⟨p, 0, none⟩) (by simp) _
  refine ⟨⟨by simpa using h'.has.put 0 u, hr.kept hk (fun g hg hin => hne g (mem_rfr.2 (.inl hg)) (by simpa using hin)), row_kept h'.wt hk (fun g hg hin => hne g (mem_rfr.2 (.inr (.inl hg))) (by simpa using hin)), h'.pi.kept hk (fun g hg hin => hne g (mem_rfr.2 (.inr (.inr hg))) (by simpa using hin)), hne⟩, ?_, ?_⟩
  · exact (Kept.of_below hb).setCell (p := ⟨p, 0, none⟩) (.inl (by simp [rffoot])) _
  · intro g hg
    rcases List.mem_cons.1 hg with rfl | hg
    · exact .inl (by simp [rffoot])
    · rcases mem_rfr.1 hg with h1 | h1
      · exact (hu g h1).imp (fun h2 => List.mem_cons_of_mem _ (mem_rfr.2 (.inl h2))) id
      · exact .inl (List.mem_cons_of_mem _ (mem_rfr.2 (.inr h1)))
/-- Another list of pins. -/
theorem RFr.setP {u : Value} (h : RFr w p vL vW vP L W P) (hb : Below w.heap.size w w') (hr : RdI w' u P') (hu : ∀ g, u.ownBlock = some g → vP.ownBlock = some g ∨ w.heap.size ≤ g) :
    RFr (w'.setCell ⟨p, 2, none⟩ u) p vL vW u L W P' ∧ Goes (rffoot p vL vW vP) w (rffoot p vL vW u) (w'.setCell ⟨p, 2, none⟩ u) := by
  have h' := h.below hb
  have hlt := h.lt
  have hne : ∀ g ∈ rfr vL vW u, g ≠ p := fun g hg => by
    rcases mem_rfr.1 hg with h1 | h1 | h1
    · exact h.ne g (mem_rfr.2 (.inl h1))
    · exact h.ne g (mem_rfr.2 (.inr (.inl h1)))
    · rcases hu g h1 with h2 | h2
      · exact h.ne g (mem_rfr.2 (.inr (.inr h2)))
      · have := hlt p (by simp [rffoot])
        omega
  have hk : Kept [p] w' (w'.setCell ⟨p, 2, none⟩ u) := (Kept.refl _ _).setCell (p := ⟨p, 2, none⟩) (by simp) _
  refine ⟨⟨by simpa using h'.has.put 2 u, h'.l.kept hk (fun g hg hin => hne g (mem_rfr.2 (.inl hg)) (by simpa using hin)), row_kept h'.wt hk (fun g hg hin => hne g (mem_rfr.2 (.inr (.inl hg))) (by simpa using hin)), hr.kept hk (fun g hg hin => hne g (mem_rfr.2 (.inr (.inr hg))) (by simpa using hin)), hne⟩, ?_, ?_⟩
  · exact (Kept.of_below hb).setCell (p := ⟨p, 2, none⟩) (.inl (by simp [rffoot])) _
  · intro g hg
    rcases List.mem_cons.1 hg with rfl | hg
    · exact .inl (by simp [rffoot])
    · rcases mem_rfr.1 hg with h1 | h1 | h1
      · exact .inl (List.mem_cons_of_mem _ (mem_rfr.2 (.inl h1)))
      · exact .inl (List.mem_cons_of_mem _ (mem_rfr.2 (.inr (.inl h1))))
      · exact (hu g h1).imp (fun h2 => List.mem_cons_of_mem _ (mem_rfr.2 (.inr (.inr h2)))) id

theorem rfTake_none (h : RFr w p vL vW vP [] W P) :
    Calls Tryz.prog 11 #[.pointer (some ⟨p, 0, none⟩)] w fun e w' => e = .returned (.tuple #[.int .i64 0, .bool false]) ∧ w' = w := by
  have hc : w.cell? ⟨p, 0, none⟩ = some vL := h.has.cell 0
  obtain ⟨A, c, rfl⟩ := h.l.form
  rw [List.length_nil] at hc
  clear h
  go_enter Tryz.func11, Tryz.ntmps11
  go_wp2
  go_ret2
  exact ⟨rfl, rfl⟩

theorem rfUnpin_any (x : Int) (h : RFr w p vL vW vP L W P) (hl : P.length ≤ 100000) :
    Calls Tryz.prog 19 #[.pointer (some ⟨p, 0, none⟩), .int .i64 x] w fun e w' => e = .returned (.bool (decide (x ∈ P))) ∧ REnd w p vL vW vP L W (P.erase x) w' := by
  have hd := refDrop_any x h.pi hl
  have hc : w.cell? ⟨p, 2, none⟩ = some vP := h.has.cell 2
  have H := Lib.hid h
  obtain ⟨b, hb⟩ : ∃ b, decide (x ∈ P) = b := ⟨_, rfl⟩
  obtain ⟨A, c, rfl⟩ := h.pi.form
  rw [hb] at hd ⊢
  generalize P.length = n at *
  clear h hl hb
  go_enter Tryz.func19, Tryz.ntmps19
  go_wp2_with fail
  refine hd.mono ?_
  rintro e w1 ⟨u, rfl, hr, hb, hu⟩
  obtain ⟨h1, h2⟩ := H.out.setP hb hr hu
  have hf := (H.out.below hb).has.free 2
  have hf2 : w1.cell? ⟨p, 2, none⟩ = some (.slice A n c) := (H.out.below hb).has.cell 2
  have HE := Lib.hid (And.intro h1 h2)
  obtain ⟨A5, c5, rfl⟩ := hr.form
  clear h1 h2 hd hr hb hu hc
  go_wp2_with fail
  go_ret
  exact ⟨rfl, _, _, _, HE.out.1, HE.out.2⟩

set_option maxRecDepth 100000 in
set_option maxHeartbeats 1000000 in
theorem rfTake_some {x : Int} {s : List Int} (h : RFr w p vL vW vP (x :: s) W P) (hl : s.length < 100000) :
    Calls Tryz.prog 11 #[.pointer (some ⟨p, 0, none⟩)] w fun e w' => e = .returned (.tuple #[.int .i64 x, .bool true]) ∧ REnd w p vL vW vP s W P w' := by
  have hc : w.cell? ⟨p, 0, none⟩ = some vL := h.has.cell 0
  rcases h.l with ⟨_, h0⟩ | ⟨b, off, c, rfl, hcp, hbb, hcell⟩
  · cases h0
  have c0 : w.cell? ⟨b, off, none⟩ = some (.int .i64 x) := hcell 0 _ rfl
  obtain ⟨n, hn⟩ : ∃ n, (x :: s).length = n := ⟨_, rfl⟩
  have hsn : s.length = n - 1 := by rw [← hn]; rfl
  have hn1 : 1 ≤ n := by rw [← hn]; simp
  have hend : ∀ v1 w1, w1.ownsRow w.heap.size 3 1 v1 s.length (s.map (.int .i64)) → Below w.heap.size w w1 → REnd w p (.slice (some ⟨b, off, none⟩) (x :: s).length c) vW vP s W P (w1.setCell ⟨p, 0, none⟩ v1) := by
    intro v1 w1 ho hb
    obtain ⟨h1, h2⟩ := h.setL hb (RdI.row ho) (fun g hg => .inr (ho.lt g hg).1)
    exact ⟨_, _, _, h1, h2⟩
  have HE := Lib.hid hend
  have HF := Lib.hid (fun (w1 : World) (hb : Below w.heap.size w w1) => And.intro ((h.below hb).has.free 0) ((h.below hb).has.cell 0))
  have hpl := h.has.inside
  have HN := Lib.hid hsn
  have hrd : ∀ j u, (s.map (Value.int .i64))[j]? = some u → w.cell? ⟨b, off + 1 + j, none⟩ = some u := by
    intro j u hu
    rw [Nat.add_assoc, Nat.add_comm 1 j]
    exact hcell (j + 1) u (by simpa using hu)
  rw [hn] at hc hcp hend ⊢
  rw [hn] at HE
  have hn0 : ((n : Int) == 0) = false := by simp; omega
  have hn2 : (0 : Int) < (n : Int) := by omega
  have hn3 : (1 : Int) ≤ (n : Int) := by omega
  have hnb : n ≤ 100000 := by omega
  by_cases h1 : c = 1
  · subst h1
    obtain rfl : n = 1 := by omega
    have hrd0 : Reads1 w w.heap.size (.slice (some ⟨b, off, none⟩) 0 0) (s.map (.int .i64)) := by
      have : s = [] := List.eq_nil_of_length_eq_zero (by omega)
      subst this
      exact ⟨_, _, rfl, fun h => by simp at h⟩
    have HRD := Lib.hid hrd0
    clear h hcell hn hrd hrd0 hend hsn hl
    go_enter Tryz.func11, Tryz.ntmps11
    go_wp2_with (at_builtin; refine append_copy rfl _ _ 22 3 (.int .i64 0) 8 Tryz.underlying22 Tryz.infoInt rfl (by decide) rfl w.heap.size w rfl w.heap.size (.slice (some ⟨b, off, none⟩) 0 0) rfl _ HRD.out (fun n c h => by cases h) int_one (by simp; have := HN.out; omega) (Nat.le_refl _) ?_; intro v1 w1 hown hb1; rw [List.length_map] at hown; have hf1 := (HF.out w1 hb1).1; have hf2 := (HF.out w1 hb1).2; simp at hf2; have HZ := Lib.hid (HE.out v1 w1 hown hb1); obtain ⟨A5, c5, rfl⟩ := row_form hown; clear hown hb1)
    go_ret2
    exact ⟨rfl, HZ.out⟩
  · have h1' : ¬ (c : Int) = 1 := by omega
    have hc1 : (1 : Int) ≤ c := by omega
    have hrd0 : Reads1 w w.heap.size (.slice (some ⟨b, off + 1, none⟩) (n - 1) (c - 1)) (s.map (.int .i64)) :=
      ⟨some ⟨b, off + 1, none⟩, c - 1, by rw [List.length_map, HN.out], fun _ => ⟨b, off + 1, rfl, hbb, hrd⟩⟩
    have HRD := Lib.hid hrd0
    clear h hcell hn hrd hrd0 hend hsn hl
    go_enter Tryz.func11, Tryz.ntmps11
    go_wp2_with (at_builtin; refine append_copy rfl _ _ 22 3 (.int .i64 0) 8 Tryz.underlying22 Tryz.infoInt rfl (by decide) rfl w.heap.size w rfl w.heap.size (.slice (some ⟨b, off + 1, none⟩) (n - 1) (c - 1)) rfl _ HRD.out (fun n c h => by cases h) int_one (by simp; have := HN.out; omega) (Nat.le_refl _) ?_; intro v1 w1 hown hb1; rw [List.length_map] at hown; have hf1 := (HF.out w1 hb1).1; have hf2 := (HF.out w1 hb1).2; simp at hf2; have HZ := Lib.hid (HE.out v1 w1 hown hb1); obtain ⟨A5, c5, rfl⟩ := row_form hown; clear hown hb1)
    go_ret2
    exact ⟨rfl, HZ.out⟩
end
end Go.Proofs.YtjimjemogbphaaaGreat

namespace Go.Proofs.YtjimjemogbphaaaGreat
open Go.RowKit

theorem perm_put {l m : List Int} {x : Int} {s : List Int} {t : List Int} (h : m.Perm (x :: l)) (hl : l.Perm (s ++ t)) : m.Perm (s ++ [x] ++ t) := by
  refine h.trans ((hl.cons x).trans ?_)
  rw [List.append_assoc]
  exact (List.perm_middle (l₁ := s) (a := x) (l₂ := t)).symm

section
variable {w : World} {p : Nat} {vL vW vP : Value} {L : List Int} {W : List (Int × Int)} {P : List Int}

set_option maxRecDepth 100000 in
set_option maxHeartbeats 1000000 in
theorem rfBack_any {v : Value} {xs : List Int} (h : RFr w p vL vW vP L W P) (hv : ReadsO (rffoot p vL vW vP) w v (xs.map (.int .i64))) (hl : xs.length + L.length ≤ 100000) (hs : L.Pairwise (· ≤ ·)) :
    Calls Tryz.prog 15 #[.pointer (some ⟨p, 0, none⟩), v] w fun e w' => e = .returned (.tuple #[]) ∧ ∃ L', REnd w p vL vW vP L' W P w' ∧ L'.Perm (xs ++ L) ∧ L'.Pairwise (· ≤ ·) := by
  obtain ⟨A, c, rfl, hr⟩ := hv
  rw [List.length_map] at *
  obtain ⟨n, hn⟩ : ∃ n, xs.length = n := ⟨_, rfl⟩
  have HR := Lib.hid (show ReadsO (rffoot p vL vW vP) w (.slice A n c) (xs.map (.int .i64)) from ⟨A, c, by rw [List.length_map, hn], by rw [List.length_map]; exact hr⟩)
  have HN := Lib.hid (And.intro hn (And.intro hl hs))
  have H := Lib.hid h
  rw [hn]
  have hnb : n ≤ 1000000 := by omega
  clear h hr hl hn hs
  go_enter Tryz.func15, Tryz.ntmps15
  go_wp2_with fail
  go_loopg [4] n (fun g i wr => ∃ (j : Nat), i = .int .i64 j ∧ j + g = n ∧ ∃ u L', RFr wr p u vW vP L' W P ∧ Goes (rffoot p vL vW vP) w (rffoot p u vW vP) wr ∧ L'.Perm (xs.take j ++ L) ∧ L'.Pairwise (· ≤ ·))
  case atStart => exact ⟨0, rfl, by omega, vL, L, H.out, Goes.refl _ _, List.Perm.refl _, HN.out.2.2⟩
  case round =>
    obtain ⟨j, rfl, hjg, u, L', hf, hgo, hpm, hso⟩ := hrel
    by_cases hlt : j < n
    · have hlt' : j < xs.length := by rw [HN.out.1]; exact hlt
      have hro := HR.out.goes hgo
      obtain ⟨A', c', hA, hro⟩ := hro
      obtain ⟨b, off, hAb, hbl, hbG, hcell⟩ := hro (by rw [List.length_map]; omega)
      simp only [Value.slice.injEq] at hA
      obtain ⟨rfl, hA2, rfl⟩ := hA
      subst hAb
      have hck := hcell j (.int .i64 xs[j]) (by simp [hlt'])
      have hL' : L'.length ≤ 100000 := by
        have h1 := hpm.length_eq
        have h2 := HN.out.2.1
        simp at h1
        omega
      have hpu := refPut_any (w := wr.drew) xs[j] (hf.l.kept (F := []) (Kept.refl _ _).drew (by simp)) hL'
      have hckb : ∀ w2, Below wr.heap.size wr.drew w2 → w2.cell? ⟨b, off + j, none⟩ = some (.int .i64 xs[j]) := fun w2 hb => (hb.cell (p := ⟨b, off + j, none⟩) hbl).trans hck
      have HCK := Lib.hid hckb
      have e1 : (xs.take (j + 1)) = xs.take j ++ [xs[j]] := by rw [List.take_succ_eq_append_getElem hlt']
      have HE := Lib.hid (And.intro e1 (And.intro hf (And.intro hgo (And.intro hpm hso))))
      have c0 : wr.cell? ⟨p, 0, none⟩ = some u := hf.has.cell 0
      obtain ⟨A6, c6, hu6⟩ := hf.l.form
      generalize hx : xs[j] = x at *
      have k0 : (0 : Int) ≤ j := by omega
      have k1 : (j : Int) < n := by omega
      subst hu6
      have hS : wr.drew.cell? ⟨p, 0, none⟩ = some (.slice A6 L'.length c6) ∧ wr.drew.cell? ⟨b, off + j, none⟩ = some (.int .i64 x) := ⟨c0, hck⟩
      clear hgo hf hpm hso e1 hcell hbl hbG hA2 hro hx hL' hck c0 hckb
      go_wp2_with fail
      refine wp_region_tills (fun w' => w'.cell? ⟨p, 0, none⟩ = some (.slice A6 L'.length c6) ∧ w'.cell? ⟨b, off + j, none⟩ = some (.int .i64 x)) 10 (by kernel_rfl) ?_
      refine till_takeAt 11 (i := 0) (v := .pointer (some ⟨p, 0, none⟩)) rfl rfl (by kernel_rfl) (by kernel_rfl) (by kernel_rfl) (by kernel_rfl) (by kernel_rfl) (fun _ _ _ h => h) (Or.inl ⟨by rfl, fun w' hw' => by obtain ⟨q1, q2⟩ := hw'; go_simp⟩) hS ?_
      simp only [List.setIfInBounds_toArray, List.set_cons_zero, List.set_cons_succ]
      refine till_takeAt 12 (i := 1) (v := .pointer (some ⟨p, 0, none⟩)) rfl rfl (by kernel_rfl) (by kernel_rfl) (by kernel_rfl) (by kernel_rfl) (by kernel_rfl) (fun _ _ _ h => h) (Or.inl ⟨by rfl, fun w' hw' => by obtain ⟨q1, q2⟩ := hw'; go_simp⟩) hS ?_
      simp only [List.setIfInBounds_toArray, List.set_cons_zero, List.set_cons_succ]
      refine till_takeAt 13 (i := 2) (v := .pointer (some ⟨p, 0, none⟩)) rfl rfl (by kernel_rfl) (by kernel_rfl) (by kernel_rfl) (by kernel_rfl) (by kernel_rfl) (fun _ _ _ h => h) (Or.inl ⟨by rfl, fun w' hw' => by obtain ⟨q1, q2⟩ := hw'; go_simp⟩) hS ?_
      simp only [List.setIfInBounds_toArray, List.set_cons_zero, List.set_cons_succ]
      refine till_takeAt 14 (i := 3) (v := .pointer (some ⟨p, 0, none⟩)) rfl rfl (by kernel_rfl) (by kernel_rfl) (by kernel_rfl) (by kernel_rfl) (by kernel_rfl) (fun _ _ _ h => h) (Or.inl ⟨by rfl, fun w' hw' => by obtain ⟨q1, q2⟩ := hw'; go_simp⟩) hS ?_
      simp only [List.setIfInBounds_toArray, List.set_cons_zero, List.set_cons_succ]
      refine till_takeAt 15 (i := 4) (v := .slice A6 L'.length c6) rfl rfl (by kernel_rfl) (by kernel_rfl) (by kernel_rfl) (by kernel_rfl) (by kernel_rfl) (fun _ _ _ h => h) (Or.inl ⟨by rfl, fun w' hw' => by obtain ⟨q1, q2⟩ := hw'; go_simp⟩) hS ?_
      simp only [List.setIfInBounds_toArray, List.set_cons_zero, List.set_cons_succ]
      refine till_takeAt 16 (i := 5) (v := .slice (some ⟨b, off, none⟩) n c) rfl rfl (by kernel_rfl) (by kernel_rfl) (by kernel_rfl) (by kernel_rfl) (by kernel_rfl) (fun _ _ _ h => h) (Or.inl ⟨by rfl, fun w' hw' => by obtain ⟨q1, q2⟩ := hw'; go_simp⟩) hS ?_
      simp only [List.setIfInBounds_toArray, List.set_cons_zero, List.set_cons_succ]
      refine till_takeAt 17 (i := 6) (v := .int .i64 j) rfl rfl (by kernel_rfl) (by kernel_rfl) (by kernel_rfl) (by kernel_rfl) (by kernel_rfl) (fun _ _ _ h => h) (Or.inl ⟨by rfl, fun w' hw' => by obtain ⟨q1, q2⟩ := hw'; go_simp⟩) hS ?_
      simp only [List.setIfInBounds_toArray, List.set_cons_zero, List.set_cons_succ]
      refine till_takeAt 18 (i := 7) (v := .pointer (some ⟨b, off + j, none⟩)) rfl rfl (by kernel_rfl) (by kernel_rfl) (by kernel_rfl) (by kernel_rfl) (by kernel_rfl) (fun _ _ _ h => h) (Or.inl ⟨by rfl, fun w' hw' => by obtain ⟨q1, q2⟩ := hw'; go_simp⟩) hS ?_
      simp only [List.setIfInBounds_toArray, List.set_cons_zero, List.set_cons_succ]
      refine till_takeAt 19 (i := 8) (v := .int .i64 x) rfl rfl (by kernel_rfl) (by kernel_rfl) (by kernel_rfl) (by kernel_rfl) (by kernel_rfl) (fun _ _ _ h => h) (Or.inl ⟨by rfl, fun w' hw' => by obtain ⟨q1, q2⟩ := hw'; go_simp⟩) hS ?_
      simp only [List.setIfInBounds_toArray, List.set_cons_zero, List.set_cons_succ]
      clear hS
      refine till_one (i := 9) (by kernel_rfl) rfl rfl (fun K hK => ?_)
      go_simp
      refine hpu.mono ?_
      rintro e w2 ⟨v2, m, rfl, him, ho2, hb2⟩
      obtain ⟨e1, hf, hgo, hpm, hso⟩ := HE.out
      have hb2' : Below wr.heap.size wr w2 := ⟨hb2.os, hb2.tape, hb2.output, hb2.size, hb2.block⟩
      obtain ⟨h1, h2⟩ := hf.setL hb2' (RdI.row ho2) (fun g hg => .inr (ho2.lt g hg).1)
      have hf1 := (hf.below hb2').has.free 0
      have hf2 : w2.cell? ⟨p, 0, none⟩ = some (.slice A6 L'.length c6) := (hf.below hb2').has.cell 0
      have hf3 := HCK.out w2 hb2
      refine hK _ _ ⟨fun _ => ⟨hf2, hf3⟩, ?_⟩
      clear hK K
      obtain ⟨A5, c5, hv5⟩ := row_form ho2
      have H2 := Lib.hid (And.intro h1 (And.intro h2 him))
      subst hv5
      clear hgo hf hpm hso e1 hpu ho2 hb2 hb2' h1 h2 him
      refine till_one (i := 10) (by kernel_rfl) rfl rfl (fun K hK => ?_)
      go_simp
      refine hK _ _ ⟨fun h => absurd h (by omega), ?_⟩
      clear hK K
      refine till_one (i := 11) (by kernel_rfl) rfl rfl (fun K hK => ?_)
      go_simp
      refine hK _ _ ⟨fun h => absurd h (by omega), ?_⟩
      clear hK K
      refine till_one (i := 12) (by kernel_rfl) rfl rfl (fun K hK => ?_)
      go_simp
      refine hK _ _ ⟨fun h => absurd h (by omega), till_done (by kernel_rfl) ?_ _⟩
      clear hK K
      go_wp2
      go_roundg (n - (j + 1))
      case measure => omega
      case rel =>
        obtain ⟨e1, hf, hgo, hpm, hso⟩ := HE.out
        refine ⟨j + 1, by go_num, by omega, _, m, H2.out.1, hgo.trans H2.out.2.1, ?_, H2.out.2.2.sorted hso⟩
        rw [e1]
        exact perm_put H2.out.2.2.perm hpm
    · obtain rfl : j = n := by omega
      have HP := Lib.hid (And.intro hf (And.intro hgo (And.intro hpm hso)))
      clear hf hgo hpm hso
      go_wp2_with fail
      go_end0
      obtain ⟨hf, hgo, hpm, hso⟩ := HP.out
      rw [List.take_of_length_le (by rw [HN.out.1]; exact Nat.le_refl _)] at hpm
      exact ⟨rfl, L', ⟨_, _, _, hf, hgo⟩, hpm, hso⟩
end
end Go.Proofs.YtjimjemogbphaaaGreat

namespace Go.Proofs.YtjimjemogbphaaaGreat
open Go.RowKit

theorem wrow_cells {w : World} {base g n c : Nat} {W : List (Int × Int)} (h : w.ownsRow base 90 2 (.slice (some ⟨g, 0, none⟩) n c) n (wlist W)) {j : Nat} (hj : j < W.length) :
    w.cell? ⟨g, j * 2, none⟩ = some (.int .i64 W[j].1) ∧ w.cell? ⟨g, j * 2 + 1, none⟩ = some (.int .i64 W[j].2) := by
  have hn : W.length = n := by have := h.1; rw [length_wlist] at this; omega
  have h0 := wlist_at W j 0 W[j] (List.getElem?_eq_getElem hj) (by omega)
  have h1 := wlist_at W j 1 W[j] (List.getElem?_eq_getElem hj) (by omega)
  rw [Nat.add_zero] at h0
  exact ⟨(h.cellAt (j * 2) (by omega)).trans h0, (h.cellAt (j * 2 + 1) (by omega)).trans h1⟩

section
variable {w : World} {p : Nat} {vL vW vP : Value} {L : List Int} {W : List (Int × Int)} {P : List Int}

set_option maxRecDepth 100000 in
set_option maxHeartbeats 1000000 in
theorem rfAll_any (h : RFr w p vL vW vP L W P) (hl : W.length + L.length ≤ 100000) (hs : L.Pairwise (· ≤ ·)) :
    Calls Tryz.prog 26 #[.pointer (some ⟨p, 0, none⟩)] w fun e w' => ∃ v' m, e = .returned v' ∧ w'.ownsRow w.heap.size 3 1 v' m.length (cellsI m) ∧ m.Perm (W.map (·.2) ++ L) ∧ m.Pairwise (· ≤ ·) ∧ Below w.heap.size w w' := by
  obtain ⟨n, hn⟩ : ∃ n, W.length = n := ⟨_, rfl⟩
  have hrd := h.l.reads
  have hform : ∀ n c, vL = .slice none n c → n = 0 ∧ c = 0 := by
    intro n c hv
    rcases h.l with ⟨rfl, _⟩ | ⟨b, off, c', rfl, _⟩
    · cases hv; exact ⟨rfl, rfl⟩
    · cases hv
  have H := Lib.hid h
  have HN := Lib.hid (And.intro hn (And.intro hl hs))
  have hnb : n ≤ 100000 := by omega
  have c0 : w.cell? ⟨p, 0, none⟩ = some vL := h.has.cell 0
  obtain ⟨A6, c6, hv6⟩ := h.l.form
  obtain ⟨A7, c7, hv7⟩ := row_form h.wt
  rw [hn] at hv7
  have HRD := Lib.hid (And.intro hrd hform)
  subst hv6 hv7
  clear h hrd hform hl hs hn
  go_enter Tryz.func26, Tryz.ntmps26
  go_wp2_with (at_builtin; refine append_copy rfl _ _ 22 3 (.int .i64 0) 8 Tryz.underlying22 Tryz.infoInt rfl (by decide) rfl w.heap.size w rfl w.heap.size (.slice A6 L.length c6) rfl _ HRD.out.1 HRD.out.2 int_one (by have := HN.out; rw [List.length_map]; omega) (Nat.le_refl _) ?_; intro v1 w1 hown hb1; rw [List.length_map] at hown; have HZ := Lib.hid (And.intro hown hb1); obtain ⟨A5, c5, rfl⟩ := row_form hown; clear hown hb1)
  go_loopg [3, 4] n (fun g lv iv wr => ∃ (j : Nat), iv = .int .i64 j ∧ j + g = n ∧ ∃ m, wr.ownsRow w.heap.size 3 1 lv m.length (cellsI m) ∧ m.Perm ((W.take j).map (·.2) ++ L) ∧ m.Pairwise (· ≤ ·) ∧ Below w.heap.size w wr)
  case atStart => exact ⟨0, rfl, by omega, L, HZ.out.1, List.Perm.refl _, HN.out.2.2, HZ.out.2⟩
  case round =>
    clear HZ w1
    obtain ⟨j, rfl, hjg, m, hown, hpm, hso, hbw⟩ := hrel
    have hR := H.out.below hbw
    have cw : wr.cell? ⟨p, 1, none⟩ = some (.slice A7 n c7) := hR.has.cell 1
    obtain ⟨A8, c8, hv8⟩ := row_form hown
    have hm' : m.length ≤ 100000 := by
      have h1 := hpm.length_eq
      have h2 := HN.out.2.1
      simp at h1
      omega
    by_cases hlt : j < n
    · have hlt' : j < W.length := by rw [HN.out.1]; exact hlt
      have hwt := hR.wt
      rw [HN.out.1] at hwt
      rcases hwt.2 with ⟨_, h0⟩ | ⟨g2, cap2, cur2, hv, _⟩
      · omega
      · simp only [Value.slice.injEq] at hv
        obtain ⟨rfl, _, rfl⟩ := hv
        obtain ⟨d0, d1⟩ := wrow_cells hwt hlt'
        have hpu := refPut_any (w := wr) W[j].2 (RdI.row hown) hm'
        have e1 : (W.take (j + 1)).map (·.2) = (W.take j).map (·.2) ++ [W[j].2] := by rw [List.take_succ_eq_append_getElem hlt', List.map_append]; rfl
        have HE := Lib.hid (And.intro e1 (And.intro hpm (And.intro hso hbw)))
        generalize hx : W[j].2 = x at *
        have k0 : (0 : Int) ≤ j := by omega
        have k1 : (j : Int) < n := by omega
        subst hv8
        clear hR hown hpm hso hbw hm' hwt d0 e1 hx
        go_wp2_with fail
        refine hpu.mono ?_
        rintro e w2 ⟨v2, q, rfl, him, ho2, hb2⟩
        obtain ⟨A5, c5, hv5⟩ := row_form ho2
        have H2 := Lib.hid (And.intro him (And.intro ho2 hb2))
        subst hv5
        clear hpu him ho2 hb2
        go_wp2
        go_roundg (n - (j + 1))
        case measure => omega
        case rel =>
          obtain ⟨e1, hpm, hso, hbw⟩ := HE.out
          obtain ⟨him, ho2, hb2⟩ := H2.out
          refine ⟨j + 1, by go_num, by omega, q, ?_, ?_, him.sorted hso, hbw.trans (hb2.mono hbw.size)⟩
          · refine ⟨ho2.1, ?_⟩
            rcases ho2.2 with h | ⟨g, cap, cur, h1, h2, h3⟩
            · exact .inl h
            · exact .inr ⟨g, cap, cur, h1, Nat.le_trans hbw.size h2, h3⟩
          · rw [e1]
            exact perm_put him.perm hpm
    · obtain rfl : j = n := by omega
      have HP := Lib.hid (And.intro hown (And.intro hpm (And.intro hso hbw)))
      subst hv8
      clear hR hown hpm hso hbw hm'
      go_wp2_with fail
      go_ret
      obtain ⟨hown, hpm, hso, hbw⟩ := HP.out
      rw [List.take_of_length_le (by rw [HN.out.1]; exact Nat.le_refl _)] at hpm
      exact ⟨_, m, rfl, hown, hpm, hso, hbw⟩
end
end Go.Proofs.YtjimjemogbphaaaGreat
