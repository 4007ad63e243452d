/-
  FreePlays: what the two keep alike, and what each thing that is done does to that.
-/
import Derived.Test.YtjimjemogbphaaaGreatMg30
namespace Go.Proofs.YtjimjemogbphaaaGreat
open Go.RowKit Go.Sort

theorem sorted_is {l m : List Int} (hp : m.Perm l) (hs : m.Pairwise (· ≤ ·)) : m = l.mergeSort leInt :=
  List.Perm.eq_of_pairwise (le := fun a b => a ≤ b) (fun _ _ _ _ h1 h2 => Int.le_antisymm h1 h2) hs (srt_le l) (hp.trans (List.mergeSort_perm l leInt).symm)
theorem sort_least {l s : List Int} {x : Int} (hp : l.Perm (x :: s)) (hm : ∀ y ∈ s, x ≤ y) : l.mergeSort leInt = x :: s.mergeSort leInt := by
  refine (sorted_is (m := x :: s.mergeSort leInt) (l := l) (((List.mergeSort_perm s leInt).cons x).trans hp.symm) ?_).symm
  refine List.pairwise_cons.2 ⟨fun y hy => hm y ((List.mergeSort_perm s leInt).mem_iff.1 hy), srt_le s⟩

def pairOf (d : Due) : Int × Int := (d.1, d.2.2)

/-- What both keep alike, behind i things that were done. -/
structure Agr (i : Nat) (l : List Int) (sq : Nat) (m : List Due) (k : List Int) (L : List Int) (W : List (Int × Int)) (P : List Int) : Prop where
  ls : L = l.mergeSort leInt
  ps : P = k.mergeSort leInt
  ws : (m.map pairOf).Perm W
  ds : Distinct m
  big : ∀ d ∈ m, d.1 ≤ 9223372036854775807 ∧ d.2.1 ≤ (sq : Int)
  few : l.length + m.length ≤ 100 + 60 * i
  pins : k.length ≤ i
  seq : sq ≤ 60 * i

section
variable {i sq : Nat} {l k L P : List Int} {m : List Due} {W : List (Int × Int)}
theorem Agr.next (h : Agr i l sq m k L W P) : Agr (i + 1) l sq m k L W P := ⟨h.ls, h.ps, h.ws, h.ds, h.big, by have := h.few; omega, by have := h.pins; omega, by have := h.seq; omega⟩
theorem Agr.wlen (h : Agr i l sq m k L W P) : W.length = m.length := by have := h.ws.length_eq; simpa using this.symm
theorem Agr.llen (h : Agr i l sq m k L W P) : L.length = l.length := by rw [h.ls, List.length_mergeSort]
theorem Agr.plen (h : Agr i l sq m k L W P) : P.length = k.length := by rw [h.ps, List.length_mergeSort]
theorem Agr.lsort (h : Agr i l sq m k L W P) : L.Pairwise (· ≤ ·) := by rw [h.ls]; exact srt_le l
theorem Agr.psort (h : Agr i l sq m k L W P) : P.Pairwise (· ≤ ·) := by rw [h.ps]; exact srt_le k
theorem Agr.take {x : Int} {s : List Int} (h : Agr i l sq m k L W P) (hp : l.Perm (x :: s)) (hm : ∀ y ∈ s, x ≤ y) : L = x :: s.mergeSort leInt ∧ Agr (i + 1) s sq m k (s.mergeSort leInt) W P := by
  refine ⟨h.ls.trans (sort_least hp hm), rfl, h.ps, h.ws, h.ds, h.big, ?_, by have := h.pins; omega, by have := h.seq; omega⟩
  have h1 := h.few
  have h2 := hp.length_eq
  simp at h2
  omega
theorem giv_pairs (t : Int) (sq : Nat) (xs : List Int) : (giv t sq xs).map pairOf = xs.map (fun x => (t, x)) := by
  unfold giv
  rw [List.map_map]
  have : (pairOf ∘ fun u : Int × Nat => ((t, ((sq + u.2 + 1 : Nat) : Int), u.1) : Due)) = (fun x : Int => (t, x)) ∘ Prod.fst := by
    funext u
    rfl
  rw [this, ← List.map_map, List.zipIdx_map_fst]
theorem giv_seqs (t : Int) (sq : Nat) (xs : List Int) : (giv t sq xs).map (fun d => d.2.1) = (List.range' 0 xs.length).map (fun n => ((sq + n + 1 : Nat) : Int)) := by
  unfold giv
  rw [List.map_map]
  have : ((fun d : Due => d.2.1) ∘ fun u : Int × Nat => ((t, ((sq + u.2 + 1 : Nat) : Int), u.1) : Due)) = (fun n : Nat => ((sq + n + 1 : Nat) : Int)) ∘ Prod.snd := by
    funext u
    rfl
  rw [this, ← List.map_map, List.zipIdx_map_snd]
theorem Agr.give {xs : List Int} (t : Int) (h : Agr i l sq m k L W P) (ht : t ≤ 9223372036854775807) (hx : xs.length ≤ 60) : Agr (i + 1) l (sq + xs.length) (giv t sq xs ++ m) k L (W ++ xs.map (fun x => (t, x))) P := by
  have hs : ∀ d ∈ giv t sq xs, d.1 = t ∧ (sq : Int) < d.2.1 ∧ d.2.1 ≤ ((sq + xs.length : Nat) : Int) := by
    intro d hd
    unfold giv at hd
    obtain ⟨u, hu, rfl⟩ := List.mem_map.1 hd
    obtain ⟨u1, u2⟩ := u
    have h1 := List.mem_zipIdx hu
    refine ⟨rfl, ?_, ?_⟩ <;> simp <;> omega
  refine ⟨h.ls, h.ps, ?_, ?_, ?_, ?_, by have := h.pins; omega, by have := h.seq; omega⟩
  · rw [List.map_append, giv_pairs]
    exact List.perm_append_comm.trans (h.ws.append_right _)
  · unfold Distinct
    rw [List.map_append, List.nodup_append]
    refine ⟨?_, h.ds, fun a ha b hb e => ?_⟩
    · rw [giv_seqs]
      refine List.Pairwise.map _ (fun a b hab => ?_) (List.nodup_range' 1 (by omega))
      simp
      omega
    · obtain ⟨d1, h1, rfl⟩ := List.mem_map.1 ha
      obtain ⟨d2, h2, rfl⟩ := List.mem_map.1 hb
      have := (hs d1 h1).2.1
      have := (h.big d2 h2).2
      omega
  · intro d hd
    rcases List.mem_append.1 hd with h1 | h1
    · exact ⟨by rw [(hs d h1).1]; exact ht, (hs d h1).2.2⟩
    · have := h.big d h1
      exact ⟨this.1, by omega⟩
  · have := h.few
    rw [List.length_append, length_giv]
    omega
theorem Agr.back {xs L' : List Int} (h : Agr i l sq m k L W P) (hp : L'.Perm (xs ++ L)) (hs : L'.Pairwise (· ≤ ·)) (hx : xs.length ≤ 60) : Agr (i + 1) (xs ++ l) sq m k L' W P := by
  refine ⟨sorted_is (hp.trans ?_) hs, h.ps, h.ws, h.ds, h.big, by have := h.few; rw [List.length_append]; omega, by have := h.pins; omega, by have := h.seq; omega⟩
  rw [h.ls]
  exact (List.mergeSort_perm l leInt).append_left xs
theorem Agr.pin {x : Int} {P' : List Int} (h : Agr i l sq m k L W P) (hi : InsAt P x P') : Agr (i + 1) l sq m (x :: k) L W P' := by
  refine ⟨h.ls, sorted_is (hi.perm.trans ?_) (hi.sorted h.psort), h.ws, h.ds, h.big, by have := h.few; omega, by have := h.pins; simp; omega, by have := h.seq; omega⟩
  rw [h.ps]
  exact (List.mergeSort_perm k leInt).cons x
theorem Agr.unpin (x : Int) (h : Agr i l sq m k L W P) : decide (x ∈ k) = decide (x ∈ P) ∧ Agr (i + 1) l sq m (k.erase x) L W (P.erase x) := by
  have hpm : P.Perm k := by rw [h.ps]; exact List.mergeSort_perm k leInt
  refine ⟨?_, h.ls, sorted_is (hpm.erase x) (h.psort.sublist List.erase_sublist), h.ws, h.ds, h.big, by have := h.few; omega, ?_, by have := h.seq; omega⟩
  · by_cases hx : x ∈ k
    · rw [decide_eq_true hx, decide_eq_true (hpm.mem_iff.2 hx)]
    · rw [decide_eq_false hx, decide_eq_false (fun h1 => hx (hpm.mem_iff.1 h1))]
  · have h1 := h.pins
    have h2 := (List.erase_sublist (a := x) (l := k)).length_le
    omega
/-- Up to which number what waits comes free. -/
theorem Agr.thr (h : Agr i l sq m k L W P) : ∃ thr : Int, ((k = [] ∧ thr = 9223372036854775807) ∨ ∃ s, k.Perm (thr :: s) ∧ ∀ y ∈ s, thr ≤ y) ∧ ∀ d ∈ m, rdue P (pairOf d) = decide (d.1 ≤ thr) := by
  by_cases hk : k = []
  · subst hk
    refine ⟨_, .inl ⟨rfl, rfl⟩, fun d hd => ?_⟩
    rw [h.ps, show ([] : List Int).mergeSort leInt = [] from List.mergeSort_nil]
    simpa [rdue] using (h.big d hd).1
  · obtain ⟨x, s, hp, hm⟩ := int_least k hk
    refine ⟨x, .inr ⟨s, hp, hm⟩, fun d hd => ?_⟩
    rw [h.ps, sort_least hp hm]
    rfl
theorem Agr.release {thr : Int} {L' : List Int} (h : Agr i l sq m k L W P) (ht : ∀ d ∈ m, rdue P (pairOf d) = decide (d.1 ≤ thr)) (hp : L'.Perm ((W.filter (rdue P)).map (·.2) ++ L)) (hs : L'.Pairwise (· ≤ ·)) :
    (dueOf thr m).length = (W.filter (rdue P)).length ∧ Agr (i + 1) (whats (dueOf thr m) ++ l) sq (lateOf thr m) k L' (W.filter (fun x => !rdue P x)) P := by
  have hd1 : ((dueOf thr m).map pairOf).Perm (W.filter (rdue P)) := by
    refine List.Perm.trans ?_ (h.ws.filter (rdue P))
    rw [List.filter_map]
    unfold dueOf
    rw [List.filter_congr (fun d hd => (ht d hd).symm)]
    try exact List.Perm.refl _
  have hd2 : ((lateOf thr m).map pairOf).Perm (W.filter (fun x => !rdue P x)) := by
    refine List.Perm.trans ?_ (h.ws.filter (fun x => !rdue P x))
    rw [List.filter_map]
    unfold lateOf
    have : ∀ d ∈ m, decide (thr < d.1) = ((fun x => !rdue P x) ∘ pairOf) d := fun d hd => by
      simp only [Function.comp]
      rw [ht d hd]
      by_cases h1 : d.1 ≤ thr
      · rw [decide_eq_true h1, decide_eq_false (by omega)]; rfl
      · rw [decide_eq_false h1, decide_eq_true (by omega)]; rfl
    rw [List.filter_congr this]
    try exact List.Perm.refl _
  refine ⟨by have := hd1.length_eq; simpa using this, sorted_is (hp.trans ?_) hs, h.ps, hd2, ?_, fun d hd => h.big d (List.mem_filter.1 hd).1, ?_, by have := h.pins; omega, by have := h.seq; omega⟩
  · have e : whats (dueOf thr m) = ((dueOf thr m).map pairOf).map (·.2) := by unfold whats; rw [List.map_map]; rfl
    rw [e, h.ls]
    exact ((hd1.symm.map _).append (List.mergeSort_perm l leInt))
  · have h1 := h.ds
    unfold Distinct at h1 ⊢
    exact h1.sublist ((List.filter_sublist (l := m) (p := fun d => decide (thr < d.1))).map _)
  · have h1 := h.few
    have h2 : (dueOf thr m).length + (lateOf thr m).length = m.length := by
      unfold dueOf lateOf
      clear h1 hd1 hd2 hp hs ht h
      induction m with
      | nil => rfl
      | cons d r ih =>
        by_cases h : d.1 ≤ thr
        · rw [List.filter_cons_of_pos (by simpa using h), List.filter_cons_of_neg (by simp; omega)]
          simp only [List.length_cons]; omega
        · rw [List.filter_cons_of_neg (by simpa using h), List.filter_cons_of_pos (by simp; omega)]
          simp only [List.length_cons]; omega
    simp [whats]
    omega
/-- Both tell all alike. -/
theorem Agr.all (h : Agr i l sq m k L W P) {q : List Int} (hp : q.Perm (W.map (·.2) ++ L)) (hs : q.Pairwise (· ≤ ·)) : q = (l ++ whats m).mergeSort leInt := by
  refine sorted_is (hp.trans ?_) hs
  have e : whats m = (m.map pairOf).map (·.2) := by unfold whats; rw [List.map_map]; rfl
  rw [e, h.ls]
  exact ((h.ws.symm.map _).append (List.mergeSort_perm l leInt)).trans List.perm_append_comm
end
end Go.Proofs.YtjimjemogbphaaaGreat
