/-
  DevKeeps, what the device is: pages that are synced, writes since, a crash, and a second one.
-/
import Derived.Test.YtlmhhoijbebcbaaG1
namespace Go.Proofs.Ytlmhhoijbebcbaa.devKeeps
open Go.RowKit Go.Lib

theorem roomed_cap {l : List (Int × ByteArray)} {cap : Nat} (hl : l.length ≤ 60) (h : cap ≤ 136) : roomed l cap ≤ 136 := by
  unfold roomed
  split
  · exact h
  · omega

/-- Writes, one behind the other: to page f i the byte i. -/
def lineOf (f : Nat → Nat) (S : List Nat) (k : Nat) : List (Int × ByteArray) := (List.range k).map fun i => ((f i : Int), filledB (S.getD i 0) 0)
theorem lineOf_snoc (f : Nat → Nat) (S : List Nat) (k : Nat) : lineOf f S (k + 1) = lineOf f S k ++ [((f k : Int), filledB (S.getD k 0) 0)] := by simp [lineOf, List.range_succ]
theorem lineOf_length (f : Nat → Nat) (S : List Nat) (k : Nat) : (lineOf f S k).length = k := by simp [lineOf]
theorem lineOf_size (f : Nat → Nat) (S : List Nat) (k : Nat) : ∀ x ∈ lineOf f S k, x.2.size = 256 := by
  intro x hx
  obtain ⟨i, _, rfl⟩ := List.mem_map.1 hx
  exact filledB_size _ _
theorem lineOf_at {f : Nat → Nat} {S : List Nat} {k j : Nat} {x : Int × ByteArray} (h : (lineOf f S k)[j]? = some x) : j < k ∧ x = ((f j : Int), filledB (S.getD j 0) 0) := by
  have hj : j < k := by
    have := (List.getElem?_eq_some_iff.1 h).1
    rwa [lineOf_length] at this
  refine ⟨hj, ?_⟩
  unfold lineOf at h
  rw [List.getElem?_map, List.getElem?_range hj] at h
  exact (Option.some.inj h).symm

theorem mixB_all {old d : ByteArray} (h2 : d.size = 256) : mixB old d 255 = d := by
  unfold mixB
  rw [mixL_full (by rw [← h2]; rfl) (by decide)]

/-- Behind k of the first writes. -/
def safeS (S : List Nat) : Nat → DevS
  | 0 => longer (newS 8) S.length
  | k + 1 => wroteS (safeS S k) k (filledB (S.getD k 0) 0)
theorem safe_facts (S : List Nat) (hS : S.length ≤ 8) : ∀ k, k ≤ S.length → Idle (safeS S k) ∧ (safeS S k).pages.length = S.length ∧ (safeS S k).synced = List.replicate S.length blank ∧ (safeS S k).line = lineOf id S k ∧ (safeS S k).cap ≤ 136 ∧ (safeS S k).most = 8
  | 0, _ => ⟨longer_idle (newS_idle 8) _, by simp [safeS, longer, newS], by simp [safeS, longer, newS], rfl, by show (0 : Nat) ≤ _; omega, rfl⟩
  | k + 1, hk => by
    obtain ⟨a, b, c, d, e, f⟩ := safe_facts S hS k (by omega)
    refine ⟨⟨a.on, a.fuse⟩, by simp [safeS, wroteS, b], c, ?_, ?_, f⟩
    · show (safeS S k).line ++ _ = _
      rw [d, lineOf_snoc]
      rfl
    · exact roomed_cap (by rw [d, lineOf_length]; omega) e

theorem safe_after (S : List Nat) (p : Nat) (b : ByteArray) : ∀ k, p < k → after (fun _ => 255) p 0 (lineOf id S k) b = filledB (S.getD p 0) 0
  | 0, h => absurd h (by omega)
  | k + 1, h => by
    rw [lineOf_snoc, after_snoc]
    by_cases hk : k = p
    · rw [if_pos (by show ((k : Int)).toNat = p; omega), mixB_all (filledB_size _ _), hk]
    · rw [if_neg (by show ¬ ((k : Int)).toNat = p; omega)]
      exact safe_after S p b k (by omega)

/-- Behind the Sync. -/
def baseS (S : List Nat) : DevS := syncedS (safeS S S.length)
theorem base_facts (S : List Nat) (hS : S.length ≤ 8) : Idle (baseS S) ∧ (baseS S).pages.length = S.length ∧ (baseS S).synced.length = S.length ∧ (baseS S).line = [] ∧ (baseS S).cap ≤ 136 ∧ (baseS S).most = 8 ∧
    (∀ p : Nat, p < S.length → (baseS S).synced[p]? = some (filledB (S.getD p 0) 0)) ∧ ∀ p : Nat, (baseS S).pages[p]? = (baseS S).synced[p]? := by
  obtain ⟨a, b, c, d, e, f⟩ := safe_facts S hS S.length (Nat.le_refl _)
  obtain ⟨g1, g2, g3, g4, g5, g6, g7⟩ := settled_flags (fun _ => 255) (safeS S S.length).line 0 (safeS S S.length)
  have hs : ∀ p : Nat, (baseS S).synced[p]? = ((safeS S S.length).synced[p]?).map (after (fun _ => 255) p 0 (safeS S S.length).line) := fun p => settled_synced _ p _ _ _
  refine ⟨synced_idle a, g5.trans b, ?_, g4, by show (settled _ 0 _ _).cap ≤ _; rw [g7]; exact e, g3.trans f, fun p hp => ?_, fun p => ?_⟩
  · rw [show (baseS S).synced.length = (safeS S S.length).synced.length from g6, c, List.length_replicate]
  · rw [hs, c, d, List.getElem?_replicate, if_pos hp, Option.map_some, safe_after S p blank _ hp]
  · by_cases hp : p < S.length
    · refine settled_pages _ p _ _ _ (by rw [c, b, List.length_replicate]) (.inr ?_)
      rw [d]
      exact ⟨((p : Int), filledB (S.getD p 0) 0), List.mem_map.2 ⟨p, List.mem_range.2 hp, rfl⟩, by simp⟩
    · rw [List.getElem?_eq_none (by rw [show (baseS S).pages.length = _ from g5, b]; omega), List.getElem?_eq_none (by rw [show (baseS S).synced.length = _ from g6, c, List.length_replicate]; omega)]

/-- Behind k writes since. -/
def moreS (S M : List Nat) : Nat → DevS
  | 0 => baseS S
  | k + 1 => wroteS (moreS S M k) ((k % S.length : Nat) : Int) (filledB (M.getD k 0) 0)
theorem more_facts (S M : List Nat) (h1 : 1 ≤ S.length) (hS : S.length ≤ 8) : ∀ k, k ≤ 40 → Idle (moreS S M k) ∧ (moreS S M k).pages.length = S.length ∧ (moreS S M k).synced = (baseS S).synced ∧ (moreS S M k).line = lineOf (· % S.length) M k ∧ (moreS S M k).cap ≤ 136 ∧ (moreS S M k).most = 8 ∧
    ∀ p : Nat, (moreS S M k).pages[p]? = (moreS S M k).synced[p]? ∨ ∃ x ∈ (moreS S M k).line, x.1.toNat = p
  | 0, _ => by
    obtain ⟨a, b, c, d, e, f, g, h⟩ := base_facts S hS
    exact ⟨a, b, rfl, d, e, f, fun p => .inl (h p)⟩
  | k + 1, hk => by
    obtain ⟨a, b, c, d, e, f, g⟩ := more_facts S M h1 hS k (by omega)
    refine ⟨⟨a.on, a.fuse⟩, by simp [moreS, wroteS, b], c, ?_, ?_, f, fun p => ?_⟩
    · show (moreS S M k).line ++ _ = _
      rw [d, lineOf_snoc]
    · exact roomed_cap (by rw [d, lineOf_length]; omega) e
    · by_cases hp : k % S.length = p
      · refine .inr ⟨(((k % S.length : Nat) : Int), filledB (M.getD k 0) 0), ?_, by simp [hp]⟩
        show _ ∈ (moreS S M k).line ++ _
        simp
      · rcases g p with h | ⟨x, hx, h⟩
        · left
          show ((moreS S M k).pages.set _ _)[p]? = (moreS S M k).synced[p]?
          rw [← h, List.getElem?_set, if_neg (by rw [Int.toNat_natCast]; exact hp)]
        · exact .inr ⟨x, List.mem_append_left _ hx, h⟩

/-- A page at last. -/
def E (S M : List Nat) (L : List Int) (p : Nat) : ByteArray := after (keepOf L) p 0 (lineOf (· % S.length) M M.length) (filledB (S.getD p 0) 0)
theorem E_size (S M : List Nat) (L : List Int) (p : Nat) : (E S M L p).size = 256 := after_size _ _ _ _ _ (filledB_size _ _) (lineOf_size _ _ _)
/-- Each sector of it is one of those that it may be. -/
theorem E_sector (S M : List Nat) (L : List Int) (p k : Nat) (hk : k < 8) :
    sector k (E S M L p).data.toList = sector k (filledB (S.getD p 0) 0).data.toList ∨ ∃ q, p + q * S.length < M.length ∧ sector k (E S M L p).data.toList = sector k (filledB (M.getD (p + q * S.length) 0) 0).data.toList := by
  rcases after_sector (keepOf L) p k hk (lineOf (· % S.length) M M.length) 0 (filledB (S.getD p 0) 0) (filledB_size _ _) (lineOf_size _ _ _) with h | ⟨j, x, h1, h2, h3⟩
  · exact .inl h
  · obtain ⟨hj, rfl⟩ := lineOf_at h1
    simp only [Int.toNat_natCast] at h2
    have hdiv : p + (j / S.length) * S.length = j := by
      have := Nat.div_add_mod j S.length
      rw [Nat.mul_comm] at this
      omega
    exact .inr ⟨j / S.length, by rw [hdiv]; exact hj, by rw [hdiv]; exact h3⟩

/-- Behind the crash, and with power again. -/
def endS (S M : List Nat) (L : List Int) : DevS := { crashS (moreS S M M.length) L with on := true }
theorem end_facts (S M : List Nat) (L : List Int) (h1 : 1 ≤ S.length) (hS : S.length ≤ 8) (hM : M.length ≤ 40) : (endS S M L).pages.length = S.length ∧ (endS S M L).line = [] ∧ (crashS (moreS S M M.length) L).most = 8 ∧ ∀ p : Nat, p < S.length → (endS S M L).pages[p]? = some (E S M L p) := by
  obtain ⟨a, b, c, d, e, f, g⟩ := more_facts S M h1 hS M.length hM
  obtain ⟨g1, g2, g3, g4, g5, g6, g7⟩ := settled_flags (keepOf L) (moreS S M M.length).line 0 { moreS S M M.length with on := false, fuse := -1 }
  obtain ⟨_, _, c', _, _, _, hb, _⟩ := base_facts S hS
  refine ⟨g5.trans b, g4, g3.trans f, fun p hp => ?_⟩
  have h2 := settled_pages (keepOf L) p (moreS S M M.length).line 0 { moreS S M M.length with on := false, fuse := -1 } (by show (moreS S M M.length).synced.length = (moreS S M M.length).pages.length; rw [c, b, c']) (g p)
  refine (show (endS S M L).pages[p]? = _ from h2).trans ?_
  rw [settled_synced]
  show ((moreS S M M.length).synced[p]?).map _ = _
  rw [c, hb p hp, d]
  rfl
/-- Behind the second one. -/
def end2S (S M : List Nat) (L : List Int) : DevS := { crashS (endS S M L) [255, 255] with on := true }
theorem end2_pages (S M : List Nat) (L : List Int) (h : (endS S M L).line = []) : (end2S S M L).pages = (endS S M L).pages ∧ (crashS (endS S M L) [255, 255]).most = (crashS (moreS S M M.length) L).most := by
  unfold end2S crashS
  rw [h]
  exact ⟨rfl, rfl⟩
theorem read_of {s : DevS} {n : Nat} {x : ByteArray} (hon : s.on = true) (h : s.pages[n]? = some x) : readB s n = x ∧ readE s n = 0 := by
  have hl : n < s.pages.length := (List.getElem?_eq_some_iff.1 h).1
  unfold readB readE
  rw [if_pos ⟨hon, by omega⟩, if_pos hon, if_pos ⟨by omega, by omega⟩, Int.toNat_natCast, h]
  exact ⟨rfl, rfl⟩
theorem grown_new (n : Nat) (hn : n ≤ 8) : growAE (newS 8) n = 0 ∧ growAS (newS 8) n = longer (newS 8) n := by
  rw [((newS_idle 8).grow n).1, ((newS_idle 8).grow n).2]
  have e : growE (newS 8) n = 0 := by
    unfold growE
    rw [if_neg (by show ¬ (n : Int) < 0; omega), if_neg (by show ¬ (n : Int) > 8; omega)]
  unfold growS
  rw [e]
  exact ⟨rfl, rfl⟩

/-- Parts of a page are the same just if the sectors are. -/
theorem part_eq {X Y : ByteArray} {k : Nat} (h : sector k X.data.toList = sector k Y.data.toList) : X.extract (k * 32) ((k + 1) * 32) = Y.extract (k * 32) ((k + 1) * 32) := by
  apply ByteArray.ext
  apply Array.toList_inj.1
  rw [sector_extract, sector_extract, h]
end Go.Proofs.Ytlmhhoijbebcbaa.devKeeps
