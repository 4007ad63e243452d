/-
  A meta's page of which only some sectors reach the device: it is whole, or it is no meta's page.
-/
import Derived.Test.YthcpjpebahiikaaDoorMg31
import Derived.Test.YthcpjpebahiikaaDoorMg10
namespace Go.Proofs.YthcpjpebahiikaaDoor
open Go.RowKit Go.Lib

theorem mpage_get? (t r f p i : Nat) (hp : p < 16777216) (h1 : 32 ≤ i) (h2 : i < 252) : (mpage t r f p)[i]? = some 0 := by
  unfold mpage
  rw [page_shape]
  simp only [mbody_len]
  have e : leb 1 1 ++ (leb 4 (t % 2) ++ (leb 4 0 ++ (leb 2 24 ++ (mbody t r f p ++ (List.replicate (241 - 24) 0 ++ leb 4 (crcB (bodyB 1 (t % 2) 0 (mbody t r f p)))))))) =
      (leb 1 1 ++ leb 4 (t % 2) ++ leb 4 0 ++ leb 2 24 ++ leb 6 t ++ leb 6 r ++ leb 6 f) ++ (leb 6 p ++ (List.replicate 217 0 ++ leb 4 (crcB (bodyB 1 (t % 2) 0 (mbody t r f p))))) := by
    simp only [mbody, List.append_assoc]
  rw [e]
  generalize hA : leb 1 1 ++ leb 4 (t % 2) ++ leb 4 0 ++ leb 2 24 ++ leb 6 t ++ leb 6 r ++ leb 6 f = A
  have hl : A.length = 29 := by rw [← hA]; simp [leb_length]
  rw [List.getElem?_append_right (by omega), hl]
  by_cases h3 : i < 35
  · rw [List.getElem?_append_left (by rw [leb_length]; omega), leb_get 6 p (i - 29) (by omega)]
    have e2 : p / 2 ^ (8 * (i - 29)) = 0 := Nat.div_eq_of_lt (Nat.lt_of_lt_of_le hp (Nat.pow_le_pow_right (n := 2) (by decide) (show 24 ≤ 8 * (i - 29) by omega)))
    rw [e2]
    rfl
  · rw [List.getElem?_append_right (by rw [leb_length]; omega), leb_length, List.getElem?_append_left (by rw [List.length_replicate]; omega), List.getElem?_replicate, if_pos (by omega)]

/-- A torn page, byte for byte. -/
theorem torn_byte (N : List UInt8) (keep : Int) (hN : N.length = 256) (i : Nat) (hi : i < 256) :
    (mixB blank ⟨N.toArray⟩ keep).data.toList[i]? = if kept keep (i / 32) = true then N[i]? else some 0 := by
  have hk : i / 32 < 8 := by omega
  have hj : i % 32 < 32 := by omega
  have e : i = 32 * (i / 32) + i % 32 := by omega
  have hs := mixB_sector (old := blank) (d := ⟨N.toArray⟩) (keep := keep) blank_size (by show N.toArray.size = 256; rw [List.size_toArray, hN]) hk
  rw [e, byte_sector _ _ _ hj, hs, ← e]
  by_cases h : kept keep (i / 32) = true
  · rw [if_pos h, if_pos h, ← byte_sector _ _ _ hj, ← e]
  · rw [if_neg h, if_neg h, ← byte_sector _ _ _ hj, ← e, blank_byte i hi]

theorem torn_len (N : List UInt8) (keep : Int) (hN : N.length = 256) : (mixB blank ⟨N.toArray⟩ keep).data.toList.length = 256 := by
  have := mixB_size (old := blank) (d := ⟨N.toArray⟩) (keep := keep) blank_size (by show N.toArray.size = 256; rw [List.size_toArray, hN])
  exact this

/-- Whole where the first sector and the last one stay. -/
theorem torn_whole (t r f p : Nat) (keep : Int) (hp : p < 16777216) (h0 : kept keep 0 = true) (h7 : kept keep 7 = true) :
    (mixB blank ⟨(mpage t r f p).toArray⟩ keep).data.toList = mpage t r f p := by
  have hl := mpage_len t r f p
  refine List.ext_getElem? fun i => ?_
  by_cases hi : i < 256
  · rw [torn_byte _ _ hl i hi]
    by_cases h : kept keep (i / 32) = true
    · rw [if_pos h]
    · rw [if_neg h, mpage_get? t r f p i hp]
      · by_cases h1 : i < 32
        · rw [show i / 32 = 0 by omega] at h
          exact absurd h0 h
        · omega
      · by_cases h1 : i < 252
        · exact h1
        · rw [show i / 32 = 7 by omega] at h
          exact absurd h7 h
  · rw [List.getElem?_eq_none (by rw [torn_len _ _ hl]; omega), List.getElem?_eq_none (by omega)]

/-- No page where the first sector is gone. -/
theorem torn_head (t r f p : Nat) (keep g : Int) (h0 : ¬ kept keep 0 = true) : ¬ GetOK g (mixB blank ⟨(mpage t r f p).toArray⟩ keep).data.toList := by
  have hl := mpage_len t r f p
  have hb := torn_byte (mpage t r f p) keep hl 0 (by omega)
  rw [if_neg h0] at hb
  generalize (mixB blank ⟨(mpage t r f p).toArray⟩ keep).data.toList = x at *
  rintro ⟨h1, h2, -⟩
  rw [openK, if_pos h1] at h2
  unfold fld at h2
  match x, hb with
  | c :: l, hb =>
    simp at hb
    subst hb
    simp [unleb] at h2

/-- Whole, or no page, where the last sector alone is gone. -/
theorem torn_tail (t r f p : Nat) (keep : Int) (hp : p < 16777216) (h0 : kept keep 0 = true) (h7 : ¬ kept keep 7 = true) :
    (mixB blank ⟨(mpage t r f p).toArray⟩ keep).data.toList = mpage t r f p ∨ ∀ g, ¬ GetOK g (mixB blank ⟨(mpage t r f p).toArray⟩ keep).data.toList := by
  have hl := mpage_len t r f p
  have hxl := torn_len (mpage t r f p) keep hl
  have hb := torn_byte (mpage t r f p) keep hl
  generalize (mixB blank ⟨(mpage t r f p).toArray⟩ keep).data.toList = x at *
  have ht : x.take 252 = (mpage t r f p).take 252 := by
    refine List.ext_getElem? fun i => ?_
    rw [List.getElem?_take, List.getElem?_take]
    by_cases hi : i < 252
    · rw [if_pos hi, if_pos hi, hb i (by omega)]
      by_cases h : kept keep (i / 32) = true
      · rw [if_pos h]
      · rw [if_neg h, mpage_get? t r f p i hp ?_ hi]
        by_cases h1 : i < 32
        · rw [show i / 32 = 0 by omega] at h
          exact absurd h0 h
        · omega
    · rw [if_neg hi, if_neg hi]
  have hd : x.drop 252 = [0, 0, 0, 0] := by
    refine List.ext_getElem? fun i => ?_
    rw [List.getElem?_drop]
    by_cases hi : i < 4
    · rw [hb (252 + i) (by omega), if_neg (by rw [show (252 + i) / 32 = 7 by omega]; exact h7)]
      match i, hi with
      | 0, _ => rfl
      | 1, _ => rfl
      | 2, _ => rfl
      | 3, _ => rfl
    · rw [List.getElem?_eq_none (by omega), List.getElem?_eq_none (by simp; omega)]
  have hf : fld x 252 4 = 0 := by rw [fld, hd]; rfl
  have hm := page_sum (kind := 1) (id := t % 2) (next := 0) (s := mbody t r f p) (by rw [mbody_len]; omega)
  change fld (mpage t r f p) 252 4 = crcB ((mpage t r f p).take 252) at hm
  by_cases hc : crcB ((mpage t r f p).take 252) = 0
  · left
    rw [hc, ← hf] at hm
    have e4 : ((mpage t r f p).drop 252).take 4 = (x.drop 252).take 4 := unleb_inj (by simp [hl, hxl]) hm
    rw [List.take_of_length_le (by simp [hl]), List.take_of_length_le (by simp [hxl])] at e4
    rw [← List.take_append_drop 252 x, ht, ← e4, List.take_append_drop]
  · right
    rintro g ⟨h1, -⟩
    rw [open_sum hxl (by rw [hf, ht]; exact fun e => hc e.symm)] at h1
    omega

theorem torn_any (t r f p : Nat) (keep : Int) (hp : p < 16777216) :
    (mixB blank ⟨(mpage t r f p).toArray⟩ keep).data.toList = mpage t r f p ∨ ∀ g, ¬ GetOK g (mixB blank ⟨(mpage t r f p).toArray⟩ keep).data.toList := by
  by_cases h0 : kept keep 0 = true
  · by_cases h7 : kept keep 7 = true
    · exact .inl (torn_whole t r f p keep hp h0 h7)
    · exact torn_tail t r f p keep hp h0 h7
  · exact .inr fun g => torn_head t r f p keep g h0
theorem blank_get (g : Int) : ¬ GetOK g blank.data.toList := by
  rintro ⟨h1, h2, -⟩
  rw [openK, if_pos h1] at h2
  have h3 : fld blank.data.toList 0 1 = 0 := by rfl
  omega
end Go.Proofs.YthcpjpebahiikaaDoor
