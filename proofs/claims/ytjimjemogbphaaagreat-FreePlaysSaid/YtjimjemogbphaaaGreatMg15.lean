/-
  The statements' book, of lists of what is due: is each as it was? each is marked. The statements' book, of lists of what is due: all lists are marked.
-/
import Derived.Test.YtjimjemogbphaaaGreatMg14
namespace Go.Proofs.YtjimjemogbphaaaGreat.BD
open Go.RowKit

/-- A row that has an element: where it lies. -/
theorem row_some {w : World} {base : Nat} {e : TypeId} {k : Nat} {v : Value} {n : Nat} {xs : List Value} (h : w.ownsRow base e k v n xs) (h0 : 0 < n) : ∃ g c, v = .slice (some ⟨g, 0, none⟩) n c ∧ n ≤ c ∧ c ≤ maxLen := by
  rcases h.2 with ⟨_, h1⟩ | ⟨g, cap, cur, h1, _, _, h2, h3, _⟩
  · omega
  · exact ⟨g, cap, h1, h2, h3⟩

set_option maxRecDepth 100000 in
set_option maxHeartbeats 2000000 in
theorem stillDues_any {w : World} {p : Nat} {cs : Array Value} {hv hc : Value} {L : List KeptI} (hp : Has w p 61 cs) (h2 : cs[14]? = some hv) (h3 : cs[15]? = some hc) (hR : Rows w (shelfI hv hc L)) (hL : L.length ≤ 250) (hx : ∀ x ∈ L, x.xs.length ≤ 1000000) :
    Calls Tryz.prog 59 #[.pointer (some ⟨p, 0, none⟩)] w fun e w' => e = .returned (.bool true) ∧ Below w.heap.size w w' := by
  have hr1 : w.ownsRow 0 39 1 hv L.length (L.map KeptI.v) := hR.all ⟨39, 1, hv, L.length, L.map KeptI.v⟩ (by simp [shelfI])
  have hr2 : w.ownsRow 0 39 1 hc L.length (L.map KeptI.c) := hR.all ⟨39, 1, hc, L.length, L.map KeptI.c⟩ (by simp [shelfI])
  obtain ⟨n, hn⟩ : ∃ n, L.length = n := ⟨_, rfl⟩
  rw [hn] at hr1 hr2 hL
  obtain ⟨A1, c1, rfl⟩ := row_form hr1
  obtain ⟨A2, c2, rfl⟩ := row_form hr2
  have HP := Lib.hid (And.intro hp (And.intro hR (And.intro hr1 (And.intro hr2 (And.intro hn (And.intro hx (And.intro h2 h3)))))))
  clear hp h2 h3 hR hr1 hr2 hn hx
  go_enter Tryz.func59, Tryz.ntmps59
  go_wp2_with fail
  go_loopg [3] n (fun g i wr => ∃ k : Nat, i = .int .i64 k ∧ k + g = n ∧ Below w.heap.size w wr)
  case atStart => exact ⟨0, rfl, by omega, Below.refl _ _⟩
  case round =>
    obtain ⟨k, rfl, hkg, hbw⟩ := hrel
    obtain ⟨hp, hR, hr1, hr2, hn, hx, h2, h3⟩ := HP.out
    have hpw := hp.below hbw hp.inside
    have hRw := hR.below hbw
    have q1 : wr.cell? ⟨p, 14, none⟩ = some (.slice A1 n c1) := (hpw.cell 14).trans h2
    have q3 : wr.cell? ⟨p, 15, none⟩ = some (.slice A2 n c2) := (hpw.cell 15).trans h3
    by_cases hlt : k < n
    · have hkl : k < L.length := by omega
      obtain ⟨g1, c1', e1, hle1, _⟩ := row_some hr1 (by omega)
      obtain ⟨g2, c2', e2, hle2, _⟩ := row_some hr2 (by omega)
      cases e1
      cases e2
      have q2 : wr.cell? ⟨g1, k, none⟩ = some L[k].v := by
        have h := (hRw.all ⟨39, 1, .slice (some ⟨g1, 0, none⟩) n c1, L.length, L.map KeptI.v⟩ (by simp [shelfI]))
        unfold RowS.on at h
        rw [hn] at h
        rw [h.cellAt k (by show k < n * 1; omega)]
        simp [hkl]
      have q4 : wr.cell? ⟨g2, k, none⟩ = some L[k].c := by
        have h := (hRw.all ⟨39, 1, .slice (some ⟨g2, 0, none⟩) n c2, L.length, L.map KeptI.c⟩ (by simp [shelfI]))
        unfold RowS.on at h
        rw [hn] at h
        rw [h.cellAt k (by show k < n * 1; omega)]
        simp [hkl]
      have ha : RowS.on L[k].rv wr.drew := World.ownsRow.drew (hRw.all L[k].rv (by simp only [shelfI, List.mem_cons, List.mem_append]; exact .inr (.inr (.inl (List.mem_map_of_mem (List.getElem_mem hkl))))))
      have hb : RowS.on L[k].rc wr.drew := World.ownsRow.drew (hRw.all L[k].rc (by simp only [shelfI, List.mem_cons, List.mem_append]; exact .inr (.inr (.inr (List.mem_map_of_mem (List.getElem_mem hkl))))))
      have hsm := sameDues_any L[k].v L[k].c _ L[k].xs wr.drew (ReadsL.of ha) (ReadsL.of hb) rfl (hx _ (List.getElem_mem hkl))
      obtain ⟨A3, c3, e3⟩ := row_form ha
      obtain ⟨A4, c4, e4⟩ := row_form hb
      simp only [KeptI.rv] at e3
      simp only [KeptI.rc] at e4
      rw [e3] at q2 hsm
      rw [e4] at q4 hsm
      generalize L[k].xs.length = m at *
      have hS : wr.drew.cell? ⟨p, 14, none⟩ = some (.slice (some ⟨g1, 0, none⟩) n c1) ∧ wr.drew.cell? ⟨g1, k, none⟩ = some (.slice A3 m c3) ∧ wr.drew.cell? ⟨p, 15, none⟩ = some (.slice (some ⟨g2, 0, none⟩) n c2) ∧ wr.drew.cell? ⟨g2, k, none⟩ = some (.slice A4 m c4) := ⟨q1, q2, q3, q4⟩
      have HB := Lib.hid hbw
      have HS := Lib.hid hsm
      have k0 : (0 : Int) ≤ k := by omega
      have k1 : (k : Int) < n := by omega
      clear hp hR hr1 hr2 hn hx h2 h3 hpw hRw q2 q3 q4 hbw hsm ha hb e3 e4 hkl
      go_wp2_with fail
      clear q1
      refine wp_region_tills (fun w' => w'.cell? ⟨p, 14, none⟩ = some (.slice (some ⟨g1, 0, none⟩) n c1) ∧ w'.cell? ⟨g1, k, none⟩ = some (.slice A3 m c3) ∧ w'.cell? ⟨p, 15, none⟩ = some (.slice (some ⟨g2, 0, none⟩) n c2) ∧ w'.cell? ⟨g2, k, none⟩ = some (.slice A4 m c4)) 14 (by kernel_rfl) ?_
      refine till_takeAt 13 (i := 0) (v := .pointer (some ⟨p, 0, none⟩)) rfl rfl (by kernel_rfl) (by kernel_rfl) (by kernel_rfl) (by kernel_rfl) (by kernel_rfl) (fun _ _ _ h => h) (Or.inl ⟨by rfl, fun w' hw' => by obtain ⟨q1, q2, q3, q4⟩ := hw'; go_simp⟩) hS ?_
      simp only [List.setIfInBounds_toArray, List.set_cons_zero, List.set_cons_succ]
      refine till_takeAt 14 (i := 1) (v := .pointer (some ⟨p, 0, none⟩)) rfl rfl (by kernel_rfl) (by kernel_rfl) (by kernel_rfl) (by kernel_rfl) (by kernel_rfl) (fun _ _ _ h => h) (Or.inl ⟨by rfl, fun w' hw' => by obtain ⟨q1, q2, q3, q4⟩ := hw'; go_simp⟩) hS ?_
      simp only [List.setIfInBounds_toArray, List.set_cons_zero, List.set_cons_succ]
      refine till_takeAt 15 (i := 2) (v := .pointer (some ⟨p, 14, none⟩)) rfl rfl (by kernel_rfl) (by kernel_rfl) (by kernel_rfl) (by kernel_rfl) (by kernel_rfl) (fun _ _ _ h => h) (Or.inl ⟨by rfl, fun w' hw' => by obtain ⟨q1, q2, q3, q4⟩ := hw'; go_simp⟩) hS ?_
      simp only [List.setIfInBounds_toArray, List.set_cons_zero, List.set_cons_succ]
      refine till_takeAt 16 (i := 3) (v := .slice (some ⟨g1, 0, none⟩) n c1) rfl rfl (by kernel_rfl) (by kernel_rfl) (by kernel_rfl) (by kernel_rfl) (by kernel_rfl) (fun _ _ _ h => h) (Or.inl ⟨by rfl, fun w' hw' => by obtain ⟨q1, q2, q3, q4⟩ := hw'; go_simp⟩) hS ?_
      simp only [List.setIfInBounds_toArray, List.set_cons_zero, List.set_cons_succ]
      refine till_takeAt 17 (i := 4) (v := .int .i64 k) rfl rfl (by kernel_rfl) (by kernel_rfl) (by kernel_rfl) (by kernel_rfl) (by kernel_rfl) (fun _ _ _ h => h) (Or.inl ⟨by rfl, fun w' hw' => by obtain ⟨q1, q2, q3, q4⟩ := hw'; go_simp⟩) hS ?_
      simp only [List.setIfInBounds_toArray, List.set_cons_zero, List.set_cons_succ]
      refine till_takeAt 18 (i := 5) (v := .pointer (some ⟨g1, k, none⟩)) rfl rfl (by kernel_rfl) (by kernel_rfl) (by kernel_rfl) (by kernel_rfl) (by kernel_rfl) (fun _ _ _ h => h) (Or.inl ⟨by rfl, fun w' hw' => by obtain ⟨q1, q2, q3, q4⟩ := hw'; go_simp⟩) hS ?_
      simp only [List.setIfInBounds_toArray, List.set_cons_zero, List.set_cons_succ]
      refine till_takeAt 19 (i := 6) (v := .slice A3 m c3) rfl rfl (by kernel_rfl) (by kernel_rfl) (by kernel_rfl) (by kernel_rfl) (by kernel_rfl) (fun _ _ _ h => h) (Or.inl ⟨by rfl, fun w' hw' => by obtain ⟨q1, q2, q3, q4⟩ := hw'; go_simp⟩) hS ?_
      simp only [List.setIfInBounds_toArray, List.set_cons_zero, List.set_cons_succ]
      refine till_takeAt 20 (i := 7) (v := .pointer (some ⟨p, 0, none⟩)) rfl rfl (by kernel_rfl) (by kernel_rfl) (by kernel_rfl) (by kernel_rfl) (by kernel_rfl) (fun _ _ _ h => h) (Or.inl ⟨by rfl, fun w' hw' => by obtain ⟨q1, q2, q3, q4⟩ := hw'; go_simp⟩) hS ?_
      simp only [List.setIfInBounds_toArray, List.set_cons_zero, List.set_cons_succ]
      refine till_takeAt 21 (i := 8) (v := .pointer (some ⟨p, 0, none⟩)) rfl rfl (by kernel_rfl) (by kernel_rfl) (by kernel_rfl) (by kernel_rfl) (by kernel_rfl) (fun _ _ _ h => h) (Or.inl ⟨by rfl, fun w' hw' => by obtain ⟨q1, q2, q3, q4⟩ := hw'; go_simp⟩) hS ?_
      simp only [List.setIfInBounds_toArray, List.set_cons_zero, List.set_cons_succ]
      refine till_takeAt 22 (i := 9) (v := .pointer (some ⟨p, 15, none⟩)) rfl rfl (by kernel_rfl) (by kernel_rfl) (by kernel_rfl) (by kernel_rfl) (by kernel_rfl) (fun _ _ _ h => h) (Or.inl ⟨by rfl, fun w' hw' => by obtain ⟨q1, q2, q3, q4⟩ := hw'; go_simp⟩) hS ?_
      simp only [List.setIfInBounds_toArray, List.set_cons_zero, List.set_cons_succ]
      refine till_takeAt 23 (i := 10) (v := .slice (some ⟨g2, 0, none⟩) n c2) rfl rfl (by kernel_rfl) (by kernel_rfl) (by kernel_rfl) (by kernel_rfl) (by kernel_rfl) (fun _ _ _ h => h) (Or.inl ⟨by rfl, fun w' hw' => by obtain ⟨q1, q2, q3, q4⟩ := hw'; go_simp⟩) hS ?_
      simp only [List.setIfInBounds_toArray, List.set_cons_zero, List.set_cons_succ]
      refine till_takeAt 24 (i := 11) (v := .int .i64 k) rfl rfl (by kernel_rfl) (by kernel_rfl) (by kernel_rfl) (by kernel_rfl) (by kernel_rfl) (fun _ _ _ h => h) (Or.inl ⟨by rfl, fun w' hw' => by obtain ⟨q1, q2, q3, q4⟩ := hw'; go_simp⟩) hS ?_
      simp only [List.setIfInBounds_toArray, List.set_cons_zero, List.set_cons_succ]
      refine till_takeAt 25 (i := 12) (v := .pointer (some ⟨g2, k, none⟩)) rfl rfl (by kernel_rfl) (by kernel_rfl) (by kernel_rfl) (by kernel_rfl) (by kernel_rfl) (fun _ _ _ h => h) (Or.inl ⟨by rfl, fun w' hw' => by obtain ⟨q1, q2, q3, q4⟩ := hw'; go_simp⟩) hS ?_
      simp only [List.setIfInBounds_toArray, List.set_cons_zero, List.set_cons_succ]
      refine till_takeAt 26 (i := 13) (v := .slice A4 m c4) rfl rfl (by kernel_rfl) (by kernel_rfl) (by kernel_rfl) (by kernel_rfl) (by kernel_rfl) (fun _ _ _ h => h) (Or.inl ⟨by rfl, fun w' hw' => by obtain ⟨q1, q2, q3, q4⟩ := hw'; go_simp⟩) hS ?_
      simp only [List.setIfInBounds_toArray, List.set_cons_zero, List.set_cons_succ]
      clear hS
      refine till_one (i := 14) (by kernel_rfl) rfl rfl (fun K hK => ?_)
      go_simp
      refine HS.out.mono ?_
      rintro e w1 ⟨rfl, hb1⟩
      refine hK _ _ ⟨fun h => absurd h (by omega), ?_⟩
      clear hK K
      have HB1 := Lib.hid (show Below w.heap.size w w1 from HB.out.trans (Below.mono ⟨hb1.os, hb1.tape, hb1.output, hb1.size, hb1.block⟩ HB.out.size))
      clear hb1
      refine till_one (i := 15) (by kernel_rfl) rfl rfl (fun K hK => ?_)
      go_simp
      refine hK _ _ ⟨fun h => absurd h (by omega), till_done (by kernel_rfl) ?_ _⟩
      clear hK K
      go_wp2
      go_roundg (n - (k + 1))
      case measure => omega
      case rel => exact ⟨k + 1, by go_num, by omega, HB1.out⟩
    · obtain rfl : k = n := by omega
      have HB := Lib.hid hbw
      clear hp hR hr1 hr2 hn hx h2 h3 hpw hRw q3 hbw
      go_wp2_with fail
      go_ret
      exact ⟨rfl, HB.out⟩
end Go.Proofs.YtjimjemogbphaaaGreat.BD

namespace Go.Proofs.YtjimjemogbphaaaGreat.BD
open Go.RowKit

/-- n lists of one's own, side by side, and the slice of them. -/
structure VSt (w : World) (hv : Value) (n : Nat) (vs : Nat → Value) (c : Nat → List Due) : Prop where
  hd : w.ownsRow 0 39 1 hv n ((List.range n).map vs)
  row : ∀ j, j < n → w.ownsRow 0 94 3 (vs j) (c j).length (cellsD (c j))
  apart : ∀ i j, i < n → j < n → i ≠ j → ∀ g, (vs i).ownBlock = some g → (vs j).ownBlock ≠ some g
  apartH : ∀ j, j < n → ∀ g, hv.ownBlock = some g → (vs j).ownBlock ≠ some g

def vblocks (n : Nat) (vs : Nat → Value) : List Nat := (List.range n).flatMap fun j => (vs j).ownBlock.toList
theorem mem_vblocks {n : Nat} {vs : Nat → Value} {g : Nat} : g ∈ vblocks n vs ↔ ∃ j, j < n ∧ (vs j).ownBlock = some g := by
  unfold vblocks
  simp

section
variable {w w' : World} {hv : Value} {n : Nat} {vs : Nat → Value} {c c' : Nat → List Due}
theorem VSt.kept {F : List Nat} (h : VSt w hv n vs c) (hk : Kept F w w') (hF : ∀ g ∈ F, hv.ownBlock ≠ some g ∧ ∀ j, j < n → (vs j).ownBlock ≠ some g) : VSt w' hv n vs c :=
  ⟨row_kept h.hd hk (fun g hg hF' => (hF g hF').1 hg), fun j hj => row_kept (h.row j hj) hk (fun g hg hF' => (hF g hF').2 j hj hg), h.apart, h.apartH⟩
theorem VSt.below (h : VSt w hv n vs c) (hb : Below w.heap.size w w') : VSt w' hv n vs c := h.kept (F := []) (Kept.of_below hb) (by simp)
theorem VSt.congr (h : VSt w hv n vs c) (he : ∀ j, j < n → c' j = c j) : VSt w hv n vs c' := ⟨h.hd, fun j hj => by rw [he j hj]; exact h.row j hj, h.apart, h.apartH⟩
theorem VSt.lt (h : VSt w hv n vs c) : ∀ j, j < n → ∀ g, (vs j).ownBlock = some g → g < w.heap.size := fun j hj g hg => ((h.row j hj).lt g hg).2
theorem VSt.ltH (h : VSt w hv n vs c) : ∀ g, hv.ownBlock = some g → g < w.heap.size := fun g hg => (h.hd.lt g hg).2

/-- What is due is written into one place of one list. -/
theorem VSt.put (h : VSt w hv n vs c) {i k g cap : Nat} (hi : i < n) (hv' : vs i = .slice (some ⟨g, 0, none⟩) (c i).length cap) (x : Due) (he : ∀ j, j < n → j ≠ i → c' j = c j) (hs : c' i = (c i).set k x) : VSt (w.setCells g (k * 3) (dcells x)) hv n vs c' := by
  have hg : (vs i).ownBlock = some g := by rw [hv']; rfl
  have h1 := h.row i hi
  rw [hv'] at h1
  obtain ⟨h2, hgr⟩ := due_stored h1 k x
  have hk : Kept [g] w (w.setCells g (k * 3) (dcells x)) := Kept.of_grown hgr (fun k hk => by simp_all)
  refine ⟨row_kept h.hd hk (fun g' hg' hF => by simp at hF; subst hF; exact h.apartH i hi g' hg' hg), fun j hj => ?_, h.apart, h.apartH⟩
  by_cases hji : j = i
  · subst hji
    rw [hs, hv', List.length_set]
    exact h2
  · rw [he j hj hji]
    exact row_kept (h.row j hj) hk (fun g' hg' hF => by simp at hF; subst hF; exact h.apart j i hj hi hji g' hg' hg)
end

/-- All lists ahead of i are marked, of list i the first k numbers. -/
def cI (c : Nat → List Due) (i k : Nat) : Nat → List Due := fun j => if j < i then marksD j 0 (c j).length else if j = i then marksD i 0 k ++ (c i).drop k else c j
theorem cI_start (c : Nat → List Due) : ∀ j, cI c 0 0 j = c j := by
  intro j
  unfold cI
  rw [if_neg (by omega)]
  split
  · rename_i h; subst h; simp [marksD]
  · rfl
theorem cI_next (c : Nat → List Due) (i : Nat) : ∀ j, cI c (i + 1) 0 j = cI c i (c i).length j := by
  intro j
  unfold cI
  rcases Nat.lt_trichotomy j i with h | h | h
  · rw [if_pos (show j < i + 1 by omega), if_pos h]
  · subst h
    rw [if_pos (show j < j + 1 by omega), if_neg (show ¬ j < j by omega), if_pos rfl]
    simp
  · rw [if_neg (show ¬ j < i + 1 by omega), if_neg (show ¬ j < i by omega), if_neg (show ¬ j = i by omega)]
    split
    · rename_i e; subst e; simp [marksD]
    · rfl
theorem cI_all (c : Nat → List Due) (n : Nat) : ∀ j, j < n → cI c n 0 j = marksD j 0 (c j).length := by
  intro j hj
  unfold cI
  rw [if_pos hj]
theorem cI_at (c : Nat → List Due) (i k : Nat) : cI c i k i = marksD i 0 k ++ (c i).drop k := by
  unfold cI
  rw [if_neg (by omega), if_pos rfl]
theorem cI_other (c : Nat → List Due) (i k k' : Nat) : ∀ j, j ≠ i → cI c i k' j = cI c i k j := by
  intro j hj
  unfold cI
  rw [if_neg hj, if_neg hj]
theorem length_cI_at (c : Nat → List Due) (i k : Nat) (hk : k ≤ (c i).length) : (cI c i k i).length = (c i).length := by
  rw [cI_at, List.length_append, length_marksD, List.length_drop]
  omega
theorem cI_set (c : Nat → List Due) (i k : Nat) (hk : k < (c i).length) : cI c i (k + 1) i = (cI c i k i).set k (markOfD i k) := by
  rw [cI_at, cI_at, marksD_snoc, List.drop_eq_getElem_cons hk, List.set_append_right _ _ (by rw [length_marksD]; exact Nat.le_refl _), length_marksD, Nat.sub_self, List.set_cons_zero, Nat.zero_add, List.append_assoc]
  rfl

def PutEndI (w : World) (hv : Value) (n : Nat) (vs : Nat → Value) (c : Nat → List Due) (w' : World) : Prop :=
  VSt w' hv n vs (fun j => marksD j 0 (c j).length) ∧ Kept (vblocks n vs) w w'

def PutAtI (w : World) (hv : Value) (n : Nat) (vs : Nat → Value) (c : Nat → List Due) (i k : Nat) (wr : World) : Prop :=
  VSt wr hv n vs (cI c i k) ∧ Kept (vblocks n vs) w wr

set_option maxRecDepth 100000 in
set_option maxHeartbeats 2000000 in
theorem putDues_any {w : World} {p : Nat} {cs : Array Value} {hv : Value} {n : Nat} {vs : Nat → Value} {c : Nat → List Due} (hp : Has w p 61 cs) (h2 : cs[14]? = some hv) (hV : VSt w hv n vs c) (hpn : ∀ j, j < n → (vs j).ownBlock ≠ some p) (hn : n ≤ 250) (hx : ∀ j, j < n → (c j).length ≤ 1000000) :
    Calls Tryz.prog 71 #[.pointer (some ⟨p, 0, none⟩)] w fun e w' => e = .returned (.tuple #[]) ∧ PutEndI w hv n vs c w' := by
  obtain ⟨A1, c1, rfl⟩ := row_form hV.hd
  have hpf : p ∉ vblocks n vs := fun h => by obtain ⟨j, hj, hg⟩ := mem_vblocks.1 h; exact hpn j hj hg
  have HP := Lib.hid (And.intro hp (And.intro hV (And.intro hpf (And.intro hx h2))))
  have hc := (hp.cell 14).trans h2
  clear hp h2 hV hpn hx hpf hc
  go_enter Tryz.func71, Tryz.ntmps71
  go_wp2_with fail
  go_loopg [2] n (fun g iv wr => ∃ i : Nat, iv = .int .i64 i ∧ i + g = n ∧ PutAtI w (.slice A1 n c1) n vs c i 0 wr)
  case atStart => exact ⟨0, rfl, by omega, HP.out.2.1.congr (fun j _ => cI_start c j), Kept.refl _ _⟩
  case round =>
    obtain ⟨i, rfl, hig, hV, hk⟩ := hrel
    obtain ⟨hp0, hV0, hpf, hx, h2⟩ := HP.out
    have hp := hp0.kept hk hpf
    have q1 : wr.cell? ⟨p, 14, none⟩ = some (.slice A1 n c1) := (hp.cell 14).trans h2
    by_cases hlt : i < n
    · obtain ⟨g1, c1', e1, hle1, _⟩ := row_some hV.hd (by omega)
      cases e1
      have hri := hV.row i hlt
      have hli : (cI c i 0 i).length = (c i).length := length_cI_at c i 0 (Nat.zero_le _)
      rw [hli] at hri
      have hxi := hx i hlt
      obtain ⟨m, hm⟩ : ∃ m, (c i).length = m := ⟨_, rfl⟩
      rw [hm] at hri hxi
      obtain ⟨A3, c3, e3⟩ := row_form hri
      have q2 : wr.cell? ⟨g1, i, none⟩ = some (.slice A3 m c3) := by
        rw [hV.hd.cellAt i (by omega)]
        simp [hlt, e3]
      have hmk := markDues_any i 0 m wr (by omega) (by omega) (by omega)
      have HB := Lib.hid (And.intro hV (And.intro hk (And.intro hm e3)))
      have HX := Lib.hid hxi
      have i0 : (0 : Int) ≤ i := by omega
      have i1 : (i : Int) < n := by omega
      have hm1 : (m : Int) ≤ 1000000 := by omega
      clear hp0 hV0 hpf hx h2 hV hk hp hri hli hm e3 hxi
      go_wp2_with fail
      refine hmk.mono ?_
      rintro e w1 ⟨mv, rfl, hmr, hb1⟩
      obtain ⟨A4, c4, rfl⟩ := row_form hmr
      obtain ⟨hV, hk, hm, e3⟩ := HB.out
      have hst : PutAtI w (.slice (some ⟨g1, 0, none⟩) n c1) n vs c i 0 w1 := ⟨hV.below hb1, hk.trans (Kept.of_below hb1)⟩
      have H1 := Lib.hid (And.intro hst (And.intro hmr (And.intro hm (And.intro e3 hk.size))))
      have hlv := hV.lt
      have hltv : ∀ j, j < n → ∀ g, (vs j).ownBlock = some g → g < wr.heap.size := hlv
      have HLV := Lib.hid hltv
      clear hst hmr hb1 hV hk hm e3 HB hmk hlv hltv q1 q2
      go_wp2_with fail
      go_loopg [4] m (fun g kv ws => ∃ k : Nat, kv = .int .i64 k ∧ k + g = m ∧ PutAtI w (.slice (some ⟨g1, 0, none⟩) n c1) n vs c i k ws ∧ ws.ownsRow 0 94 3 (.slice A4 m c4) m (cellsD (marksD i 0 m)))
      case atStart => exact ⟨0, rfl, by omega, H1.out.1, row_base0 H1.out.2.1⟩
      case round =>
        obtain ⟨k, rfl, hkg, ⟨hV, hk⟩, hmr⟩ := hrel
        obtain ⟨_, hmr0, hm, e3, hsz⟩ := H1.out
        by_cases hltk : k < m
        · obtain ⟨hp0, hV0, hpf, hx, h2⟩ := HP.out
          have hp := hp0.kept hk hpf
          have q1 : wr.drew.cell? ⟨p, 14, none⟩ = some (.slice (some ⟨g1, 0, none⟩) n c1) := (hp.cell 14).trans h2
          have hri := hV.row i hlt
          have hlci := length_cI_at c i k (by omega)
          rw [hlci, hm, e3] at hri
          obtain ⟨g3, c3', e3', hle3, _⟩ := row_some hri (by omega)
          cases e3'
          obtain ⟨g4, c4', e4', hle4, _⟩ := row_some hmr (by omega)
          cases e4'
          have q2 : wr.drew.cell? ⟨g1, i, none⟩ = some (.slice (some ⟨g3, 0, none⟩) m c3) := by
            refine (hV.hd.cellAt i (by omega)).trans ?_
            simp [hlt, e3]
          have hml : (marksD i 0 m).length = m := length_marksD _ _ _
          have q3 : wr.drew.rangeAt g4 (k * 3) (dcells (markOfD i k)) := by
            have h := rangeD hmr (i := k) (by omega)
            have e : (marksD i 0 m)[k]'(by omega) = markOfD i k := by simp [marksD]
            rw [e] at h
            exact (World.rangeAt_drew _ _ _ _).2 h
          have t3 : wr.drew.there g3 (k * 3) 3 := by
            have h := due_there (a := (cI c i k i).toArray) hri (i := k) (by simp; omega)
            exact (World.there_drew _ _ _ _).2 h
          have hg3v : (vs i).ownBlock = some g3 := by rw [e3]; rfl
          have hg34 : g3 ≠ g4 := fun e => by
            have h6 := HLV.out i hlt g3 hg3v
            have h7 := (hmr0.lt g4 rfl).1
            omega
          have hVd : VSt wr.drew (.slice (some ⟨g1, 0, none⟩) n c1) n vs (cI c i k) := hV.kept (F := []) (Kept.refl _ _).drew (by simp)
          have hks : Kept [g3] wr.drew (wr.drew.setCells g3 (k * 3) (dcells (markOfD i k))) := Kept.of_grown (due_stored hri.drew k (markOfD i k)).2 (fun k hk => by simp_all)
          have hV' := hVd.put (c' := cI c i (k + 1)) (k := k) (g := g3) (cap := c3) hlt (by rw [e3, hlci, hm]) (markOfD i k) (fun j _ hj => cI_other c i k (k + 1) j hj) (cI_set c i k (by omega))
          have hk' : Kept (vblocks n vs) w (wr.drew.setCells g3 (k * 3) (dcells (markOfD i k))) := hk.drew.then_ hks (fun k hk => by simp at hk; subst hk; exact .inl (mem_vblocks.2 ⟨i, hlt, hg3v⟩))
          have hmr' : (wr.drew.setCells g3 (k * 3) (dcells (markOfD i k))).ownsRow 0 94 3 (.slice (some ⟨g4, 0, none⟩) m c4) m (cellsD (marksD i 0 m)) :=
            row_kept (World.ownsRow.drew hmr) hks (fun g hg hF => by simp at hF; subst hF; cases hg; exact hg34 rfl)
          have HF := Lib.hid (And.intro hV' (And.intro hk' hmr'))
          have HZ := Lib.hid Tryz.sizeDue
          have hS : wr.drew.cell? ⟨p, 14, none⟩ = some (.slice (some ⟨g1, 0, none⟩) n c1) ∧ wr.drew.cell? ⟨g1, i, none⟩ = some (.slice (some ⟨g3, 0, none⟩) m c3) ∧ wr.drew.rangeAt g4 (k * 3) (dcells (markOfD i k)) := ⟨q1, q2, q3⟩
          have k0 : (0 : Int) ≤ k := by omega
          have k1 : (k : Int) < m := by omega
          clear hks hml hp0 hV0 hpf hx h2 hp q1 q2 q3 hri hlci hVd hV' hk' hmr' hV hk hmr hmr0 hm hsz hg34 hg3v e3 HLV H1
          go_wp2_with fail
          refine wp_region_tills (fun w' => w'.cell? ⟨p, 14, none⟩ = some (.slice (some ⟨g1, 0, none⟩) n c1) ∧ w'.cell? ⟨g1, i, none⟩ = some (.slice (some ⟨g3, 0, none⟩) m c3) ∧ w'.rangeAt g4 (k * 3) (dcells (markOfD i k))) 12 (by kernel_rfl) ?_
          refine till_takeAt 30 (i := 0) (v := .pointer (some ⟨p, 0, none⟩)) rfl rfl (by kernel_rfl) (by kernel_rfl) (by kernel_rfl) (by kernel_rfl) (by kernel_rfl) (fun _ _ _ h => h) (Or.inl ⟨by rfl, fun w' hw' => by obtain ⟨q1, q2, q3⟩ := hw'; go_simp⟩) hS ?_
          simp only [List.setIfInBounds_toArray, List.set_cons_zero, List.set_cons_succ]
          refine till_takeAt 31 (i := 1) (v := .pointer (some ⟨p, 0, none⟩)) rfl rfl (by kernel_rfl) (by kernel_rfl) (by kernel_rfl) (by kernel_rfl) (by kernel_rfl) (fun _ _ _ h => h) (Or.inl ⟨by rfl, fun w' hw' => by obtain ⟨q1, q2, q3⟩ := hw'; go_simp⟩) hS ?_
          simp only [List.setIfInBounds_toArray, List.set_cons_zero, List.set_cons_succ]
          refine till_takeAt 32 (i := 2) (v := .pointer (some ⟨p, 14, none⟩)) rfl rfl (by kernel_rfl) (by kernel_rfl) (by kernel_rfl) (by kernel_rfl) (by kernel_rfl) (fun _ _ _ h => h) (Or.inl ⟨by rfl, fun w' hw' => by obtain ⟨q1, q2, q3⟩ := hw'; go_simp⟩) hS ?_
          simp only [List.setIfInBounds_toArray, List.set_cons_zero, List.set_cons_succ]
          refine till_takeAt 33 (i := 3) (v := .slice (some ⟨g1, 0, none⟩) n c1) rfl rfl (by kernel_rfl) (by kernel_rfl) (by kernel_rfl) (by kernel_rfl) (by kernel_rfl) (fun _ _ _ h => h) (Or.inl ⟨by rfl, fun w' hw' => by obtain ⟨q1, q2, q3⟩ := hw'; go_simp⟩) hS ?_
          simp only [List.setIfInBounds_toArray, List.set_cons_zero, List.set_cons_succ]
          refine till_takeAt 34 (i := 4) (v := .int .i64 i) rfl rfl (by kernel_rfl) (by kernel_rfl) (by kernel_rfl) (by kernel_rfl) (by kernel_rfl) (fun _ _ _ h => h) (Or.inl ⟨by rfl, fun w' hw' => by obtain ⟨q1, q2, q3⟩ := hw'; go_simp⟩) hS ?_
          simp only [List.setIfInBounds_toArray, List.set_cons_zero, List.set_cons_succ]
          refine till_takeAt 35 (i := 5) (v := .pointer (some ⟨g1, i, none⟩)) rfl rfl (by kernel_rfl) (by kernel_rfl) (by kernel_rfl) (by kernel_rfl) (by kernel_rfl) (fun _ _ _ h => h) (Or.inl ⟨by rfl, fun w' hw' => by obtain ⟨q1, q2, q3⟩ := hw'; go_simp⟩) hS ?_
          simp only [List.setIfInBounds_toArray, List.set_cons_zero, List.set_cons_succ]
          refine till_takeAt 36 (i := 6) (v := .slice (some ⟨g3, 0, none⟩) m c3) rfl rfl (by kernel_rfl) (by kernel_rfl) (by kernel_rfl) (by kernel_rfl) (by kernel_rfl) (fun _ _ _ h => h) (Or.inl ⟨by rfl, fun w' hw' => by obtain ⟨q1, q2, q3⟩ := hw'; go_simp⟩) hS ?_
          simp only [List.setIfInBounds_toArray, List.set_cons_zero, List.set_cons_succ]
          refine till_takeAt 37 (i := 7) (v := .int .i64 k) rfl rfl (by kernel_rfl) (by kernel_rfl) (by kernel_rfl) (by kernel_rfl) (by kernel_rfl) (fun _ _ _ h => h) (Or.inl ⟨by rfl, fun w' hw' => by obtain ⟨q1, q2, q3⟩ := hw'; go_simp⟩) hS ?_
          simp only [List.setIfInBounds_toArray, List.set_cons_zero, List.set_cons_succ]
          refine till_takeAt 38 (i := 8) (v := .slice (some ⟨g4, 0, none⟩) m c4) rfl rfl (by kernel_rfl) (by kernel_rfl) (by kernel_rfl) (by kernel_rfl) (by kernel_rfl) (fun _ _ _ h => h) (Or.inl ⟨by rfl, fun w' hw' => by obtain ⟨q1, q2, q3⟩ := hw'; go_simp⟩) hS ?_
          simp only [List.setIfInBounds_toArray, List.set_cons_zero, List.set_cons_succ]
          refine till_takeAt 39 (i := 9) (v := .int .i64 k) rfl rfl (by kernel_rfl) (by kernel_rfl) (by kernel_rfl) (by kernel_rfl) (by kernel_rfl) (fun _ _ _ h => h) (Or.inl ⟨by rfl, fun w' hw' => by obtain ⟨q1, q2, q3⟩ := hw'; go_simp⟩) hS ?_
          simp only [List.setIfInBounds_toArray, List.set_cons_zero, List.set_cons_succ]
          refine till_takeAt 40 (i := 10) (v := .pointer (some ⟨g4, k * 3, none⟩)) rfl rfl (by kernel_rfl) (by kernel_rfl) (by kernel_rfl) (by kernel_rfl) (by kernel_rfl) (fun _ _ _ h => h) (Or.inl ⟨by rfl, fun w' hw' => by obtain ⟨q1, q2, q3⟩ := hw'; go_simp⟩) hS ?_
          simp only [List.setIfInBounds_toArray, List.set_cons_zero, List.set_cons_succ]
          refine till_takeAt 41 (i := 11) (v := .agg (dcells (markOfD i k)).toArray) rfl rfl (by kernel_rfl) (by kernel_rfl) (by kernel_rfl) (by kernel_rfl) (by kernel_rfl) (fun _ _ _ h => h) (yields_mid rfl 94 (.tmp 40) rfl g4 (k * 3) (by rfl) (dcells (markOfD i k)) _ (fun w' h => h.2.2) Tryz.underlying94 rfl HZ.out) hS ?_
          simp only [List.setIfInBounds_toArray, List.set_cons_zero, List.set_cons_succ]
          clear hS
          refine till_one (i := 12) (by kernel_rfl) rfl rfl (fun K hK => ?_)
          go_simp
          refine hK _ _ ⟨fun h => absurd h (by omega), ?_⟩
          clear hK K
          refine till_one (i := 13) (by kernel_rfl) rfl rfl (fun K hK => ?_)
          refine wp_store_mid 94 (.tmp 42) (.tmp 41) rfl g3 (k * 3) (dcells (markOfD i k)).toArray (by rfl) (by rfl) t3 HZ.out (all_oneCell_toArray (dcells_one (markOfD i k))) ?_
          refine hK _ _ ⟨fun h => absurd h (by omega), till_done (by kernel_rfl) ?_ _⟩
          clear hK K
          go_wp2
          go_roundg (m - (k + 1))
          case measure => omega
          case rel => exact ⟨k + 1, by go_num, by omega, ⟨HF.out.1, HF.out.2.1⟩, HF.out.2.2⟩
        · obtain rfl : k = m := by omega
          have HQ := Lib.hid (And.intro hV hk)
          have HM := Lib.hid hm
          clear hV hk hmr hmr0 hm e3 hsz H1
          go_wp2
          go_roundg (n - (i + 1))
          case measure => omega
          case rel => exact ⟨i + 1, by go_num, by omega, HQ.out.1.congr (fun j _ => by rw [cI_next, HM.out]), HQ.out.2⟩
    · obtain rfl : i = n := by omega
      have HQ := Lib.hid (And.intro hV hk)
      clear hV hk hp0 hV0 hpf hx h2 hp
      go_wp2_with fail
      go_end0
      exact ⟨rfl, HQ.out.1.congr (fun j hj => (cI_all c i j hj).symm), HQ.out.2⟩
end Go.Proofs.YtjimjemogbphaaaGreat.BD
