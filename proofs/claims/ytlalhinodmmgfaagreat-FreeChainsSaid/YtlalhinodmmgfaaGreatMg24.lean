/-
  The statements' book, of lists of numbers: a shelf as lists side by side; what is read behind growing.
-/
import Derived.Test.YtlalhinodmmgfaaGreatMg23
namespace Go.Proofs.YtlalhinodmmgfaaGreat
open Go.RowKit

def vsI (L : List KeptI) : Nat → Value := fun j => (L[j]?.map KeptI.v).getD (.slice none 0 0)
def csI (L : List KeptI) : Nat → List Int := fun j => (L[j]?.map KeptI.xs).getD []
theorem vsI_map (L : List KeptI) : (List.range L.length).map (vsI L) = L.map KeptI.v := by
  refine List.ext_getElem? fun j => ?_
  unfold vsI
  rcases Nat.lt_or_ge j L.length with h | h
  · simp [h]
  · simp [h]
theorem vsI_at {L : List KeptI} {j : Nat} (h : j < L.length) : vsI L j = L[j].v := by simp [vsI, h]
theorem csI_at {L : List KeptI} {j : Nat} (h : j < L.length) : csI L j = L[j].xs := by simp [csI, h]

/-- The blocks of the lists and of the slice of them. -/
def vfoot (hv : Value) (n : Nat) (vs : Nat → Value) : List Nat := hv.ownBlock.toList ++ vblocks n vs
theorem mem_vfoot {hv : Value} {n : Nat} {vs : Nat → Value} {g : Nat} : g ∈ vfoot hv n vs ↔ hv.ownBlock = some g ∨ ∃ j, j < n ∧ (vs j).ownBlock = some g := by
  unfold vfoot
  rw [List.mem_append, mem_vblocks]
  simp

theorem vfoot_sub (hv hc : Value) (L : List KeptI) : ∀ g ∈ vfoot hv L.length (vsI L), g ∈ foot (shelfI hv hc L) := by
  intro g hg
  refine mem_foot.2 ?_
  rcases mem_vfoot.1 hg with h | ⟨j, hj, h⟩
  · exact ⟨⟨22, 1, hv, L.length, L.map KeptI.v⟩, by simp [shelfI], h⟩
  · rw [vsI_at hj] at h
    exact ⟨L[j].rv, by simp only [shelfI, List.mem_cons, List.mem_append]; exact .inr (.inr (.inl (List.mem_map_of_mem (List.getElem_mem hj)))), h⟩

/-- A shelf's lists lie side by side. -/
theorem VSt.of {w : World} {hv hc : Value} {L : List KeptI} (hR : Rows w (shelfI hv hc L)) : VSt w hv L.length (vsI L) (csI L) := by
  have hap := hR.apart
  refine ⟨?_, fun j hj => ?_, fun i j hi hj hij g hg hg' => ?_, fun j hj g hg hg' => ?_⟩
  · rw [vsI_map]
    exact hR.all ⟨22, 1, hv, L.length, L.map KeptI.v⟩ (by simp [shelfI])
  · rw [vsI_at hj, csI_at hj]
    exact hR.all L[j].rv (by simp only [shelfI, List.mem_cons, List.mem_append]; exact .inr (.inr (.inl (List.mem_map_of_mem (List.getElem_mem hj)))))
  · rw [vsI_at hi] at hg
    rw [vsI_at hj] at hg'
    have h1 : (foot (L.map KeptI.rv)).Nodup := by
      unfold shelfI at hap
      rw [foot_cons, foot_cons, foot_append] at hap
      exact (List.nodup_append.1 (List.nodup_append.1 (List.nodup_append.1 hap).2.1).2.1).1
    unfold foot at h1
    have h2 := (List.pairwise_flatMap.1 h1).2
    have h3 := List.pairwise_iff_getElem.1 h2
    rcases Nat.lt_or_gt_of_ne hij with h | h
    · exact h3 i j (by simpa using hi) (by simpa using hj) h g (by simpa [RowS.foot, KeptI.rv] using hg) g (by simpa [RowS.foot, KeptI.rv] using hg') rfl
    · exact h3 j i (by simpa using hj) (by simpa using hi) h g (by simpa [RowS.foot, KeptI.rv] using hg') g (by simpa [RowS.foot, KeptI.rv] using hg) rfl
  · rw [vsI_at hj] at hg'
    unfold shelfI at hap
    rw [foot_cons] at hap
    refine (List.nodup_append.1 hap).2.2 g (by simp [RowS.foot, hg]) g ?_ rfl
    rw [foot_cons, foot_append]
    exact List.mem_append.2 (.inr (List.mem_append.2 (.inl (mem_foot.2 ⟨L[j].rv, List.mem_map_of_mem (List.getElem_mem hj), hg'⟩))))

/-- What is read behind growing: the lists and the longer ones, each marked; none of their blocks is of F. -/
def RdsI (w : World) (F : List Nat) (hv ov : Value) : Prop :=
  ∃ (n : Nat) (vs cur : Nat → Value) (ln : Nat → Nat), n ≤ 250 ∧ (∀ j, j < n → ln j ≤ 900000) ∧ ReadsL w hv n ((List.range n).map vs) ∧ ReadsL w ov n ((List.range n).map cur) ∧
    (∀ j, j < n → ReadsL w (vs j) (ln j) (cellsI (marksI j 0 (ln j)))) ∧ (∀ j, j < n → ReadsL w (cur j) (ln j + 72) (cellsI (marksI j 0 (ln j + 72)))) ∧
    (∀ g, hv.ownBlock = some g → g ∉ F) ∧ (∀ g, ov.ownBlock = some g → g ∉ F) ∧ (∀ j, j < n → ∀ g, (vs j).ownBlock = some g → g ∉ F) ∧ ∀ j, j < n → ∀ g, (cur j).ownBlock = some g → g ∉ F
section
variable {w w' : World} {F : List Nat} {hv ov : Value}
theorem RdsI.kept (h : RdsI w F hv ov) (hk : Kept F w w') : RdsI w' F hv ov := by
  obtain ⟨n, vs, cur, ln, h1, h2, h3, h4, h5, h6, h7, h8, h9, h10⟩ := h
  exact ⟨n, vs, cur, ln, h1, h2, h3.kept hk h7, h4.kept hk h8, fun j hj => (h5 j hj).kept hk (h9 j hj), fun j hj => (h6 j hj).kept hk (h10 j hj), h7, h8, h9, h10⟩
theorem RdsI.below (h : RdsI w F hv ov) (hb : Below w.heap.size w w') : RdsI w' F hv ov := h.kept (Kept.of_below hb)
theorem RdsI.none_ (h : RdsI w F hv ov) : RdsI w [] hv ov := by
  obtain ⟨n, vs, cur, ln, h1, h2, h3, h4, h5, h6, _⟩ := h
  exact ⟨n, vs, cur, ln, h1, h2, h3, h4, h5, h6, by simp, by simp, by simp, by simp⟩
theorem RdsI.first (h : RdsI w F hv ov) : Calls Tryz.prog 68 #[hv] w fun e w' => e = .returned (.bool true) ∧ Below w.heap.size w w' := by
  obtain ⟨n, vs, cur, ln, h1, h2, h3, h4, h5, h6, _⟩ := h
  exact markedInts_any h3 h5 h1 (fun j hj => by have := h2 j hj; omega)
theorem RdsI.second (h : RdsI w F hv ov) : Calls Tryz.prog 68 #[ov] w fun e w' => e = .returned (.bool true) ∧ Below w.heap.size w w' := by
  obtain ⟨n, vs, cur, ln, h1, h2, h3, h4, h5, h6, _⟩ := h
  exact markedInts_any (tl := fun j => ln j + 72) h4 h6 h1 (fun j hj => by have := h2 j hj; show ln j + 72 ≤ _; omega)

theorem RdsI.of {n : Nat} {vs : Nat → Value} {ln : Nat → Nat} (hn : n ≤ 250) (hx : ∀ j, j < n → ln j ≤ 900000) (h0 : ∀ j, j < n → w.ownsRow 0 3 1 (vs j) (ln j) (cellsI (marksI j 0 (ln j)))) (hE : GrowEndI w hv n vs ln ov w') (hF : ∀ g ∈ F, g < w.heap.size ∧ g ∉ vfoot hv n vs) : RdsI w' F hv ov := by
  obtain ⟨cur, hG⟩ := hE
  have hz := hG.st.kept.size
  refine ⟨n, vs, cur, ln, hn, hx, ReadsL.of hG.st.hd, ReadsL.of hG.out, fun j hj => ?_, fun j hj => ReadsL.of (hG.st.row j hj), fun g hg hF' => (hF g hF').2 (mem_vfoot.2 (.inl hg)), fun g hg hF' => ?_, fun j hj g hg hF' => (hF g hF').2 (mem_vfoot.2 (.inr ⟨j, hj, hg⟩)), fun j hj g hg hF' => ?_⟩
  · obtain ⟨A, c, e, h1⟩ := ReadsL.of (h0 j hj)
    refine ⟨A, c, e, fun hp => ?_⟩
    obtain ⟨g, rfl, hg, _⟩ := h1 hp
    exact ⟨g, rfl, by omega, hG.st.old j hj g (by rw [e]; rfl)⟩
  · have := (hG.out.lt g hg).1
    have := (hF g hF').1
    omega
  · rcases hG.st.from_ j hj g hg with h | h
    · exact (hF g hF').2 (mem_vfoot.2 (.inr ⟨j, hj, h⟩))
    · have := (hF g hF').1
      omega
end
end Go.Proofs.YtlalhinodmmgfaaGreat
