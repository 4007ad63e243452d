/-
  Both Chains tell the same bodies; and they give the numbers back.
-/
import Derived.Test.YtlalhinodmmgfaaGreatMg20
import Derived.Test.YtlalhinodmmgfaaGreatMg21
namespace Go.Proofs.YtlalhinodmmgfaaGreat
open Go.RowKit Go.Lib

theorem partL_drop (l : List Int) (k : Nat) : partL l (k + 1) = partL (l.drop 60) k := by
  unfold partL
  rw [List.drop_drop, show 60 + 60 * k = 60 * (k + 1) by omega]
theorem parts_range : ∀ (n : Nat) (l : List Int), l.length ≤ n → parts n l = (List.range ((l.length + 59) / 60)).map (partL l)
  | 0, l, h => by
    obtain rfl : l = [] := List.eq_nil_of_length_eq_zero (by omega)
    rfl
  | n + 1, l, h => by
    have e2 : parts (n + 1) l = if l = [] then [] else l.take 60 :: parts n (l.drop 60) := rfl
    rw [e2]
    by_cases hl : l = []
    · subst hl
      rfl
    · have h0 : 0 < l.length := List.length_pos_iff.2 hl
      have hd : (l.drop 60).length = l.length - 60 := List.length_drop
      rw [if_neg hl, parts_range n (l.drop 60) (by omega), hd]
      have e3 : (l.length + 59) / 60 = (l.length - 60 + 59) / 60 + 1 := by omega
      rw [e3, List.range_succ_eq_map, List.map_cons, List.map_map]
      have e4 : partL l 0 = l.take 60 := by simp [partL]
      rw [e4]
      congr 1
      refine List.map_congr_left (fun k _ => ?_)
      exact (partL_drop l k).symm

/-- The document's own Chain tells what the free pages' own does. -/
theorem chTo_parts (l : List Int) : (chTo l l.length).1 = (List.range ((l.length + 59) / 60)).map fun k => bodyOf (partL l k) := by
  rw [chTo_bodies, parts_range l.length l (Nat.le_refl _), List.map_map]
  rfl

theorem flat_take : ∀ (l : List Int) (k j : Nat), k < l.length → j = 4 * k → ((l.flatMap fun x => leb 4 x.toNat).drop j).take 4 = leb 4 (l.getD k 0).toNat
  | [], _, _, h, _ => by simp at h
  | x :: r, 0, j, _, hj => by
    subst hj
    rw [List.flatMap_cons, Nat.mul_zero, List.drop_zero]
    have := leb_length 4 x.toNat
    rw [List.take_append_of_le_length (by omega), List.take_of_length_le (by omega)]
    rfl
  | x :: r, k + 1, j, h, hj => by
    have h4 := leb_length 4 x.toNat
    rw [List.flatMap_cons, List.drop_append, h4, List.drop_eq_nil_of_le (by omega), List.nil_append, flat_take r k (j - 4) (by simpa using h) (by omega)]
    rfl

theorem numsTo_body (l : List Int) (h : ∀ x ∈ l, fits x) : numsTo (bodyOf l) ((bodyOf l).size / 4) = l := by
  have hs : (bodyOf l).size = 4 * l.length := by rw [← bodyOf_size]; simp
  have hd : (bodyOf l).data.toList = l.flatMap fun x => leb 4 x.toNat := by unfold bodyOf; rw [bodyOn_list]; rfl
  rw [hs, Nat.mul_div_cancel_left _ (by omega : 0 < 4)]
  refine List.ext_getElem (by rw [length_numsTo]) (fun k h1 h2 => ?_)
  simp only [numsTo, List.getElem_map, List.getElem_range]
  unfold numAt
  rw [hd, flat_take l k (4 * k) h2 rfl, List.getD, List.getElem?_eq_getElem h2]
  have hx := h _ (List.getElem_mem h2)
  unfold fits at hx
  simp only [Option.getD_some]
  rw [unleb_leb 4 _ (by show l[k].toNat < 2 ^ 32; omega)]
  omega

theorem unch_bodies : ∀ (n : Nat) (l : List Int), l.length ≤ n → (∀ x ∈ l, fits x) → unch ((parts n l).map bodyOf) = l
  | 0, l, h, _ => by
    obtain rfl : l = [] := List.eq_nil_of_length_eq_zero (by omega)
    rfl
  | n + 1, l, h, hf => by
    have e2 : parts (n + 1) l = if l = [] then [] else l.take 60 :: parts n (l.drop 60) := rfl
    rw [e2]
    by_cases hl : l = []
    · subst hl
      rfl
    · have h0 : 0 < l.length := List.length_pos_iff.2 hl
      rw [if_neg hl, List.map_cons]
      have e3 : unch (bodyOf (l.take 60) :: (parts n (l.drop 60)).map bodyOf) = numsTo (bodyOf (l.take 60)) ((bodyOf (l.take 60)).size / 4) ++ unch ((parts n (l.drop 60)).map bodyOf) := by simp [unch]
      rw [e3, numsTo_body _ (fun x hx => hf x (List.mem_of_mem_take hx)), unch_bodies n (l.drop 60) (by rw [List.length_drop]; omega) (fun x hx => hf x (List.mem_of_mem_drop hx)), List.take_append_drop]

/-- The numbers come back. -/
theorem unch_chain (l : List Int) (h : ∀ x ∈ l, fits x) : unch (chTo l l.length).1 = l ∧ ∀ s ∈ (chTo l l.length).1, s.size % 4 = 0 ∧ s.size ≤ 240 := by
  rw [chTo_bodies]
  refine ⟨unch_bodies _ _ (Nat.le_refl _) h, ?_⟩
  rw [parts_range _ _ (Nat.le_refl _)]
  intro s hs
  rw [List.map_map] at hs
  obtain ⟨k, _, rfl⟩ := List.mem_map.1 hs
  have hz : (bodyOf (partL l k)).size = 4 * (partL l k).length := by rw [← bodyOf_size]; simp
  have hp := length_partL l k
  unfold partN at hp
  show (bodyOf (partL l k)).size % 4 = 0 ∧ (bodyOf (partL l k)).size ≤ 240
  omega
end Go.Proofs.YtlalhinodmmgfaaGreat
