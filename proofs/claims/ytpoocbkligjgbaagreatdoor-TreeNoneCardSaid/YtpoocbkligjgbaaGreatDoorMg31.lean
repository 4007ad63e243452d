/-
  Walks over package branch: Get. Walks over package branch: Find.
-/
import Derived.Test.YtpoocbkligjgbaaGreatDoorMg30
import Derived.Deep.LoopGhost
import Derived.Test.YtpoocbkligjgbaaGreatDoorMg24
import Derived.Test.YtpoocbkligjgbaaGreatDoorShelf
namespace Go.Proofs.YtpoocbkligjgbaaGreatDoor.BR
open Go.RowKit Go.Lib

theorem rvar_short {l : List UInt8} (h : (rvar l).2.2 = 0) : (rvar l).2.1.length < l.length := by
  unfold rvar at h ⊢
  rcases gscan_err l 0 0 with ⟨h0, h1⟩ | h4 | h5
  · rw [if_pos h0] at h ⊢
    have h2 := gscan_n_le l 0 0
    simp only [List.length_drop]
    omega
  · rw [h4] at h; simp at h
  · rw [h5] at h; simp at h
theorem rtext_short {most : Int} {l : List UInt8} (h : (rtext most l).2.2 = 0) : (rtext most l).2.1.length < l.length := by
  have hc : (rcount most l).2.2 = 0 ∧ (rtext most l).2.1.length ≤ (rcount most l).2.1.length := by
    unfold rtext at h ⊢
    by_cases h1 : (rcount most l).2.2 = 0
    · refine ⟨h1, ?_⟩
      rw [if_neg (by simpa using h1)]
      split
      · exact Nat.le_refl _
      · simp only [List.length_drop]; omega
    · rw [if_pos h1] at h
      exact absurd h h1
  have hv : (rcount most l).2.1 = (rvar l).2.1 ∧ (rvar l).2.2 = 0 := by
    have h1 := hc.1
    unfold rcount at h1 ⊢
    by_cases h2 : (rvar l).2.2 = 0
    · rw [if_neg (by simpa using h2)] at h1 ⊢
      refine ⟨?_, h2⟩
      split
      · rfl
      · split
        · rfl
        · rfl
    · rw [if_pos h2] at h1
      exact absurd h1 h2
  have := rvar_short hv.2
  rw [← hv.1] at this
  omega
theorem rtext_rest (most : Int) (l : List UInt8) : (rtext most l).2.1.length ≤ l.length := by
  have := rcount_rest most l
  unfold rtext
  split
  · exact this
  · split
    · exact this
    · simp only [List.length_drop]; omega
theorem getItem_short {b : List UInt8} (h : (getItem b).2.2 = 0) : (getItem b).2.1.length < b.length := by
  unfold getItem at h ⊢
  by_cases h1 : (rtext 40 b).2.2 = 0
  · have k1 := rtext_short h1
    have k2 := rvar_rest (rtext 40 b).2.1
    simp only [ne_eq, h1, not_true, if_false] at h ⊢
    omega
  · simp only [ne_eq, h1, not_false_eq_true, if_true] at h
/-- The key of a child is read, then its page. -/
theorem gtext_any (b : Nat) (bs : List UInt8) (w : World) (h : Rd w b bs 0) (hlen : bs.length ≤ 281474976710656) :
    Calls Tryz.prog 271 #[.pointer (some ⟨b, 0, none⟩), .int .i64 40] w fun e w' => e = .returned (.string (getItem bs).1.key) ∧ Rd w' b (rtext 40 bs).2.1 (rtext 40 bs).2.2 ∧ Kept [b] w w' := by
  refine (rtext_any b bs 40 w h hlen).mono ?_
  rintro e w' ⟨rfl, h1, h2⟩
  refine ⟨?_, h1, Kept.of_grown h2 (fun k hk => by cases hk; simp)⟩
  unfold getItem
  simp only
  split <;> rfl
theorem gvar_any (b : Nat) (bs : List UInt8) (w : World) (h : Rd w b (rtext 40 bs).2.1 (rtext 40 bs).2.2) :
    Calls Tryz.prog 272 #[.pointer (some ⟨b, 0, none⟩)] w fun e w' => e = .returned (.int .i64 (getItem bs).1.page) ∧ Rd w' b (getItem bs).2.1 (getItem bs).2.2 ∧ Kept [b] w w' := by
  by_cases h1 : (rtext 40 bs).2.2 = 0
  · rw [h1] at h
    refine (rvar_any b _ w h).mono ?_
    rintro e w' ⟨rfl, h2, h3⟩
    have e1 : getItem bs = (⟨⟨(rtext 40 bs).1.toArray⟩, (rvar (rtext 40 bs).2.1).1⟩, (rvar (rtext 40 bs).2.1).2.1, (rvar (rtext 40 bs).2.1).2.2) := by
      unfold getItem
      simp only [ne_eq, h1, not_true, if_false]
    rw [e1]
    exact ⟨rfl, h2, Kept.of_grown h3 (fun k hk => by cases hk; simp)⟩
  · refine (rvar_err b _ _ w h h1).mono ?_
    rintro e w' ⟨rfl, rfl⟩
    have e1 : getItem bs = (⟨⟨(rtext 40 bs).1.toArray⟩, 0⟩, (rtext 40 bs).2.1, (rtext 40 bs).2.2) := by
      unfold getItem
      simp only [ne_eq, h1, not_false_eq_true, if_true]
    rw [e1]
    exact ⟨rfl, h, Kept.refl _ _⟩

/-- Where Get stands: it has read the items l, the bytes rest are left. -/
structure GetInv (s : List UInt8) (l : List Chd) (rest : List UInt8) : Prop where
  len : l.length + rest.length ≤ s.length
  all : ∀ L, (∀ x ∈ L, rightB x = true) → leafB L = s → l.length ≤ L.length ∧ L.take l.length = l ∧ leafB (L.drop l.length) = rest
theorem leafB_ne {x : Chd} {L : List Chd} (h : rightB x = true) : leafB (x :: L) ≠ [] := by
  have h1 := (right_len h).2
  intro e
  have := congrArg List.length e
  simp only [leafB, List.flatMap_cons, List.length_append, List.length_nil] at this
  omega
theorem GetInv.start (s : List UInt8) : GetInv s [] s := ⟨by simp, fun L _ h => ⟨by simp, by simp, by simpa using h⟩⟩
theorem GetInv.head {s rest : List UInt8} {l L : List Chd} (h : GetInv s l rest) (hne : rest ≠ []) (hL : ∀ x ∈ L, rightB x = true) (hs : leafB L = s) : ∃ hlt : l.length < L.length, getItem rest = (L[l.length], leafB (L.drop (l.length + 1)), 0) := by
  obtain ⟨h1, h2, h3⟩ := h.all L hL hs
  by_cases hlt : l.length < L.length
  · refine ⟨hlt, ?_⟩
    rw [List.drop_eq_getElem_cons hlt] at h3
    have e : leafB (L[l.length] :: L.drop (l.length + 1)) = itemB L[l.length] ++ leafB (L.drop (l.length + 1)) := by show List.flatMap _ _ = _; rw [List.flatMap_cons]; rfl
    rw [← h3, e]
    exact getItem_laid (hL _ (List.getElem_mem hlt)) _
  · rw [List.drop_eq_nil_of_le (by omega)] at h3
    exact absurd h3.symm hne
theorem GetInv.step {s rest : List UInt8} {l : List Chd} (h : GetInv s l rest) (hne : rest ≠ []) (he : (getItem rest).2.2 = 0) : GetInv s (l ++ [(getItem rest).1]) (getItem rest).2.1 := by
  have hsh := getItem_short he
  refine ⟨by have := h.len; simp; omega, fun L hL hs => ?_⟩
  obtain ⟨hlt, hg⟩ := h.head hne hL hs
  obtain ⟨h1, h2, h3⟩ := h.all L hL hs
  rw [hg]
  simp only [List.length_append, List.length_singleton]
  refine ⟨hlt, ?_, trivial⟩
  rw [List.take_succ_eq_append_getElem hlt, h2]
theorem GetInv.none {s rest : List UInt8} {l : List Chd} (h : GetInv s l rest) (hne : rest ≠ []) (he : (getItem rest).2.2 ≠ 0) : ∀ L, ¬ IsLeaf s L := by
  rintro L ⟨hok, _, hs⟩
  obtain ⟨_, hg⟩ := h.head hne hok.2.1 hs
  rw [hg] at he
  exact he rfl
theorem GetInv.done {s : List UInt8} {l L : List Chd} (h : GetInv s l []) (hL : IsLeaf s L) : L = l := by
  obtain ⟨hok, _, hs⟩ := hL
  obtain ⟨h1, h2, h3⟩ := h.all L hok.2.1 hs
  have h4 : L.drop l.length = [] := by
    cases hd : L.drop l.length with
    | nil => rfl
    | cons x r =>
      rw [hd] at h3
      exact absurd h3 (leafB_ne (hok.2.1 x (List.mem_of_mem_drop (i := l.length) (by rw [hd]; simp))))
  have h5 : L.take l.length ++ L.drop l.length = l ++ [] := by rw [h2, h4]
  simpa using h5

/-- What Get comes to. -/
def GetTo8 (w : World) (s : List UInt8) (e : Ending) (w' : World) : Prop :=
  ∃ v, (∃ l, e = .returned (.tuple #[v, .int .i64 0]) ∧ IsLeaf s l ∧ w'.ownsRow w.heap.size 204 2 v l.length (ilist l) ∧ Below w.heap.size w w') ∨ (e = .returned (.tuple #[v, .int .i64 4]) ∧ v = .slice none 0 0 ∧ (∀ l, ¬ IsLeaf s l) ∧ Below w.heap.size w w')

set_option maxRecDepth 100000 in
set_option maxHeartbeats 2000000 in
theorem get_any8 (s : ByteArray) (w : World) (hs : s.size ≤ 9223372036854775807) : Calls Tryz.prog 223 #[.string s] w (GetTo8 w s.data.toList) := by
  have hsl : s.data.toList.length = s.size := by simp
  by_cases h240 : s.size ≤ 240
  · have hnew := rdnew_any s w hs
    have hs1 : (s.size : Int) ≤ 240 := by omega
    go_enter Tryz.func223, Tryz.ntmps223
    go_wp2_with fail
    refine hnew.mono ?_
    rintro e w1 ⟨rfl, hrd, hb1⟩
    obtain ⟨p, hp⟩ : ∃ p, w.heap.size = p := ⟨_, rfl⟩
    rw [hp] at hrd hb1 ⊢
    have HP := Lib.hid (And.intro hp (And.intro hrd hb1))
    clear hp hrd hb1 hnew
    go_wp2_with fail
    go_loopg [4] s.size (fun g lv wr => ∃ l rest, g = rest.length ∧ Rd wr p rest 0 ∧ wr.ownsRow (p + 1) 204 2 lv l.length (ilist l) ∧ GetInv s.data.toList l rest ∧ Below p w wr)
    case atStart => exact ⟨[], s.data.toList, hsl.symm, HP.out.2.1, World.ownsRow_nil _ _ _ _, GetInv.start _, HP.out.2.2⟩
    case round =>
      obtain ⟨l, rest, hg, hrd, hown, hinv, hbl⟩ := hrel
      have hen := end_any p rest 0 wr hrd
      have hlen := hinv.len
      by_cases hne : rest = []
      · subst hne
        have he0 : endOf [] 0 = 0 := rfl
        have hpw : p ≤ wr.heap.size := Nat.le_of_lt hrd.inside
        rw [he0] at hen
        have hll : l.length ≤ 240 := by simp at hlen; omega
        have hri := row_readsIt (row_lower hown (base' := 0) (Nat.zero_le _))
        have hpu := put_any u4 l wr hri (by omega)
        have hrow := row_lower hown (base' := p) (by omega)
        obtain ⟨A, c, hA⟩ := hri.form
        subst hA
        by_cases hyes : putE l = 0 ∧ putB l = s.data.toList
        · obtain ⟨y1, y2⟩ := hyes
          have hst : (⟨s.data.toList.toArray⟩ : ByteArray) = s := by simp
          rw [y1, y2, hst] at hpu
          have hok : OKL l ∧ sz l ≤ 240 := by
            unfold putE at y1
            split at y1
            · rename_i h1
              split at y1
              · rename_i h2; exact ⟨h1, h2⟩
              · simp at y1
            · simp at y1
          have hleaf : IsLeaf s.data.toList l := ⟨hok.1, hok.2, by unfold putB at y2; rwa [if_pos hok] at y2⟩
          have HH := Lib.hid (And.intro hleaf (And.intro hrow hbl))
          clear hleaf hok y1 y2 hst hrow hbl hinv hown hri hlen hrd
          go_wp2_with fail
          refine hen.mono ?_
          rintro e w2 ⟨rfl, rfl⟩
          go_wp2_with fail
          refine hpu.mono ?_
          rintro e w3 ⟨rfl, hb3⟩
          have H3 := Lib.hid hb3
          clear hb3 hpu hen
          go_wp2_with fail
          go_ret2
          have hrow3 := row_kept (F := []) HH.out.2.1 (Kept.of_below H3.out) (fun _ _ h => by simp at h)
          exact ⟨.slice A l.length c, .inl ⟨l, rfl, HH.out.1, by rw [HP.out.1]; exact hrow3, by rw [HP.out.1]; exact HH.out.2.2.trans (H3.out.mono hpw)⟩⟩
        · have hno : ∀ L, ¬ IsLeaf s.data.toList L := by
            intro L hL
            obtain rfl := hinv.done hL
            obtain ⟨h1, h2, h3⟩ := hL
            refine hyes ⟨by unfold putE; rw [if_pos h1, if_pos h2], by unfold putB; rw [if_pos ⟨h1, h2⟩, h3]⟩
          by_cases hE : putE l = 0
          · have hts : ¬ ((⟨(putB l).toArray⟩ : ByteArray).toList = s.toList) := by
              intro h
              have h2 := congrArg (fun b : ByteArray => b.data.toList) (toList_inj h)
              simp only at h2
              exact hyes ⟨hE, by simpa using h2⟩
            rw [hE] at hpu
            have HH := Lib.hid (And.intro hno hbl)
            generalize (⟨(putB l).toArray⟩ : ByteArray) = t at *
            have htb : (t.toList == s.toList) = false := by simpa using hts
            clear hno hyes hrow hbl hinv hown hri hlen hE hrd hts
            go_wp2_with fail
            refine hen.mono ?_
            rintro e w2 ⟨rfl, rfl⟩
            go_wp2_with fail
            refine hpu.mono ?_
            rintro e w3 ⟨rfl, hb3⟩
            have H3 := Lib.hid hb3
            clear hb3 hpu hen
            go_wp2_with fail
            go_ret2
            exact ⟨_, .inr ⟨rfl, rfl, HH.out.1, by rw [HP.out.1]; exact HH.out.2.trans (H3.out.mono hpw)⟩⟩
          · have hEb : (putE l != 0) = true := by simpa using hE
            have HH := Lib.hid (And.intro hno hbl)
            generalize (⟨(putB l).toArray⟩ : ByteArray) = t at *
            generalize putE l = E at *
            clear hno hyes hrow hbl hinv hown hri hlen hE hrd
            go_wp2_with fail
            refine hen.mono ?_
            rintro e w2 ⟨rfl, rfl⟩
            go_wp2_with fail
            refine hpu.mono ?_
            rintro e w3 ⟨rfl, hb3⟩
            have H3 := Lib.hid hb3
            clear hb3 hpu hen
            go_wp2_with fail
            go_ret2
            exact ⟨_, .inr ⟨rfl, rfl, HH.out.1, by rw [HP.out.1]; exact HH.out.2.trans (H3.out.mono hpw)⟩⟩
      · have he4 : endOf rest 0 = 4 := by unfold endOf; rw [if_pos rfl, if_neg hne]
        rw [he4] at hen
        have hra := gtext_any p rest wr hrd (by omega)
        have hva := fun W hW => gvar_any p rest W hW
        have hin := hrd.inside
        cases hgi : getItem rest with
        | mk x r =>
        obtain ⟨r1, n1⟩ := r
        simp only [hgi] at hra hva
        have HV := Lib.hid hva
        have HH := Lib.hid (And.intro hown (And.intro hinv (And.intro hbl (And.intro hgi (And.intro hne hg)))))
        have hform : ∃ A c, u4 = .slice A l.length c := by
          obtain ⟨A, c, h⟩ := (row_readsIt (row_lower hown (base' := p + 1) (Nat.le_refl _))).form
          exact ⟨A, c, h⟩
        obtain ⟨A, c, hA⟩ := hform
        subst hA
        clear hown hinv hbl hgi hg hrd hva
        go_wp2_with fail
        refine hen.mono ?_
        rintro e w2 ⟨rfl, rfl⟩
        clear hen
        go_wp2_with fail
        refine hra.mono ?_
        rintro e w2 ⟨rfl, hrd2, hk2⟩
        clear hra
        have hV2 := HV.out w2 hrd2
        have HK2 := Lib.hid hk2
        clear hrd2 hk2 HV
        go_wp2_with fail
        refine hV2.mono ?_
        rintro e w3 ⟨rfl, hrd3, hk23⟩
        have hk3 := HK2.out.trans hk23
        have hown3 := row_kept HH.out.1 hk3 (fun g hg hin => by have := (HH.out.1.lt g hg).1; simp at hin; omega)
        have hp3 : p + 1 ≤ w3.heap.size := hrd3.inside
        clear hk23 hV2
        have hrx : ReadsIt (w3.alloc (iobj x)) (w3.heap.size + 1) (.slice (some ⟨w3.heap.size, 0, none⟩) 1 1) [x] := ReadsIt.built w3 [x] (by unfold maxLen; simp)
        have hown3a := hown3.alloc (iobj x)
        have hpa : p + 1 ≤ (w3.alloc (iobj x)).heap.size := by simp; omega
        have hl1 : l.length + [x].length ≤ 1000000 := by simp; omega
        have H3 := Lib.hid (And.intro hrd3 hk3)
        clear hrd3 hk3 hown3
        go_wp2_with (at_builtin; refine append_its rfl _ _ rfl (p + 1) _ (.slice A l.length c) l rfl hown3a _ (.slice (some ⟨w3.heap.size, 0, none⟩) 1 1) rfl [x] hrx hl1 hpa ?_; intro v4 w4 hown4 hb4)
        have hrd4 : Rd w4 p r1 n1 := (H3.out.1.below ((Below.refl _ _).alloc (Nat.le_refl _) _) (by omega)).below hb4 (by omega)
        have hce : w4.cell? ⟨p, 1, none⟩ = some (.int .i64 n1) := by
          obtain ⟨s4, _, _, h4⟩ := hrd4
          exact h4.cell 1
        have her := err_at p n1 w4 hce
        have hk34 : Below p wr w4 := (H3.out.2.below (by omega) (by intro k hk; simp at hk; omega)).trans (((Below.refl p w3).alloc (by omega) _).trans (hb4.mono (by omega)))
        have H4 := Lib.hid (And.intro hown4 (And.intro hrd4 hk34))
        clear hown4 hb4 hrd4 hk34 hce
        obtain ⟨hown, hinv, hbl, hgi, hne', hg⟩ := HH.out
        by_cases hn1 : n1 = 0
        · subst hn1
          have hst := hinv.step hne' (by rw [hgi])
          have hsh := getItem_short (b := rest) (by rw [hgi])
          rw [hgi] at hst hsh
          simp only at hst hsh
          have HI := Lib.hid (And.intro hst (And.intro hsh hbl))
          clear hown hinv hbl hgi hne' hst hsh
          have hgH := Lib.hid hg
          clear hg
          go_wp2_with fail
          refine her.mono ?_
          rintro e w5 ⟨rfl, rfl⟩
          go_wp2_with fail
          go_roundg r1.length
          case measure => have := HI.out.2.1; have := hgH.out; omega
          case rel => exact ⟨l ++ [x], r1, rfl, H4.out.2.1, H4.out.1, HI.out.1, HI.out.2.2.trans H4.out.2.2⟩
        · have hno := hinv.none hne' (by rw [hgi]; exact hn1)
          have HI := Lib.hid (And.intro hno hbl)
          have hn1b : (n1 != 0) = true := by simpa using hn1
          clear hown hinv hbl hgi hne' hno hg
          go_wp2_with fail
          refine her.mono ?_
          rintro e w5 ⟨rfl, rfl⟩
          go_wp2_with fail
          go_ret2
          exact ⟨_, .inr ⟨rfl, rfl, HI.out.1, by rw [HP.out.1]; exact HI.out.2.trans H4.out.2.2⟩⟩
  · have hno : ∀ l, ¬ IsLeaf s.data.toList l := by
      rintro l ⟨_, h1, h2⟩
      unfold sz at h1
      rw [h2, hsl] at h1
      omega
    have h241 : (240 : Int) < s.size := by omega
    go_enter Tryz.func223, Tryz.ntmps223
    go_wp2_with fail
    go_ret2
    exact ⟨_, .inr ⟨rfl, rfl, hno, Below.refl _ _⟩⟩
end Go.Proofs.YtpoocbkligjgbaaGreatDoor.BR

namespace Go.Proofs.YtpoocbkligjgbaaGreatDoor.BR
open Go.RowKit Go.Lib

set_option maxRecDepth 100000 in
set_option maxHeartbeats 400000 in
theorem find1_any (x : Chd) (k : ByteArray) (w : World) : Calls Tryz.prog 157 #[iagg x, .string k] w fun e w' => e = .returned (.int .i64 (if ltK k x.key = true then 1 else -1)) ∧ Below w.heap.size w w' := by
  cases hlk : ltK k x.key
  · by_cases hxk : x.key = k
    · subst hxk
      unfold ltK at hlk
      go_enter Tryz.func157, Tryz.ntmps157
      go_wp2_with fail
      go_ret
      exact ⟨rfl, (Below.refl _ _).alloc (Nat.le_refl _) _⟩
    · have hlt : ltK x.key k = true := by
        cases h : ltK x.key k
        · exact absurd (ltK_tri h hlk) hxk
        · rfl
      unfold ltK at hlt
      clear hlk hxk
      go_enter Tryz.func157, Tryz.ntmps157
      go_wp2_with fail
      go_ret
      exact ⟨rfl, (Below.refl _ _).alloc (Nat.le_refl _) _⟩
  · have h1 := ltK_asymm hlk
    have h2 : (x.key.toList == k.toList) = false := by
      rw [beq_eq_false_iff_ne]
      intro h
      exact ltK_ne hlk (toList_inj h).symm
    unfold ltK at h1
    clear hlk
    go_enter Tryz.func157, Tryz.ntmps157
    go_wp2_with fail
    go_ret
    exact ⟨rfl, (Below.refl _ _).alloc (Nat.le_refl _) _⟩

/-- What the search by halves comes to. -/
def BsfTo (l : List Chd) (k : ByteArray) (w : World) (e : Ending) (w' : World) : Prop := ∃ (i : Nat) (T : Bool), e = .returned (.tuple #[.int .i64 i, .bool T]) ∧ (i = fnd l k + 1 ∨ (i = 0 ∧ fnd l k = 0)) ∧ Below w.heap.size w w'
set_option maxRecDepth 100000 in
set_option maxHeartbeats 1000000 in
theorem bsf_any (v : Value) (l : List Chd) (k : ByteArray) (w : World) (hr : ReadsIt w w.heap.size v l) (hrise : Rise (l.drop 1)) (hl : l.length ≤ 35184372088832) :
    Calls Tryz.prog 156 #[v, .string k, .func (.func 157) #[] #[]] w (BsfTo l k w) := by
  obtain ⟨A, c, rfl, hlc, hcm, _, hc⟩ := hr
  have hcm' : c ≤ 9223372036854775807 := by unfold maxLen at hcm; omega
  have hfl := fnd_le l k
  clear hcm
  go_enter Tryz.func156, Tryz.ntmps156
  go_wp2
  go_loopw [9, 10] (fun iv jv wr => ∃ i j : Nat, iv = .int .i64 i ∧ jv = .int .i64 j ∧ i ≤ fnd l k + 1 ∧ (fnd l k + 1 ≤ j ∨ (fnd l k = 0 ∧ i = 0 ∧ j = 0)) ∧ j ≤ l.length ∧ Below w.heap.size w wr) (fun iv jv _ => (RowKit.intOf jv).toNat - (RowKit.intOf iv).toNat)
  case atStart => exact ⟨0, l.length, rfl, rfl, by omega, by omega, Nat.le_refl _, Below.refl _ _⟩
  case round =>
    obtain ⟨i, j, rfl, rfl, hi, hj, hjl, hbl⟩ := hrel
    have hbs := hbl.size
    by_cases hlt : i < j
    · obtain ⟨b, off, rfl, hbb, hcell⟩ := hc (by omega)
      have hm : (i + j) / 2 < l.length := by omega
      obtain ⟨c0, c1⟩ := (hcell.below hbl hbb) ((i + j) / 2) hm
      have hsum : (i : Int) + j ≤ 70368744177664 := by omega
      have hmi : i ≤ (i + j) / 2 := by omega
      have hmj : (i + j) / 2 < j := by omega
      have hF := fun w => find1_any l[(i + j) / 2] k w
      have hbel : 1 ≤ (i + j) / 2 → (i + j) / 2 ≤ fnd l k → ltK k l[(i + j) / 2].key = false := fun h1 h2 => fnd_below h1 h2 hm
      have habv : fnd l k < (i + j) / 2 → ltK k l[(i + j) / 2].key = true := fun h => fnd_above hrise h hm
      have HF := Lib.hid hF
      have HK := Lib.hid (And.intro hcell (And.intro hbel habv))
      clear hF hcell hbel habv hc
      cases hlk : ltK k l[(i + j) / 2].key
      · have hle : (i + j) / 2 ≤ fnd l k := by
          rcases Nat.lt_or_ge (fnd l k) ((i + j) / 2) with h | h
          · have := HK.out.2.2 h; rw [hlk] at this; cases this
          · exact h
        rw [hlk] at HF
        have HLE : Hid ((i + j) / 2 + 1 ≤ fnd l k + 1 ∧ (fnd l k + 1 ≤ j ∨ (fnd l k = 0 ∧ (i + j) / 2 + 1 = 0 ∧ j = 0))) := Lib.hid ⟨by omega, by omega⟩
        have HLK := Lib.hid hlk
        clear hlk hle hi hj
        generalize hxx : l[(i + j) / 2] = x at *
        have HX := Lib.hid hxx
        clear hxx
        go_wp2_with fail
        refine (HF.out _).mono ?_
        rintro e w1 ⟨rfl, hb1⟩
        go_wp2_with fail
        have em : ((i : Int) + j) / 2 + 1 = (((i + j) / 2 + 1 : Nat) : Int) := by omega
        rw [em]
        go_roundw
        case rel => exact ⟨(i + j) / 2 + 1, j, rfl, rfl, HLE.out.1, HLE.out.2, hjl, hbl.trans (hb1.mono hbs)⟩
        case measure => simp [RowKit.intOf]; omega
      · have hle : fnd l k < (i + j) / 2 ∨ ((i + j) / 2 = 0 ∧ fnd l k = 0) := by
          rcases Nat.lt_or_ge (fnd l k) ((i + j) / 2) with h | h
          · exact .inl h
          · rcases Nat.eq_zero_or_pos ((i + j) / 2) with h0 | h0
            · exact .inr ⟨h0, by omega⟩
            · have := HK.out.2.1 h0 h; rw [hlk] at this; cases this
        rw [hlk] at HF
        have HLK := Lib.hid hlk
        clear hlk
        generalize hxx : l[(i + j) / 2] = x at *
        have HX := Lib.hid hxx
        have HLE : Hid (i ≤ fnd l k + 1 ∧ (fnd l k + 1 ≤ (i + j) / 2 ∨ (fnd l k = 0 ∧ i = 0 ∧ (i + j) / 2 = 0))) := Lib.hid ⟨hi, by omega⟩
        clear hxx hle hi hj
        go_wp2_with fail
        refine (HF.out _).mono ?_
        rintro e w1 ⟨rfl, hb1⟩
        go_wp2_with fail
        have em : ((i : Int) + j) / 2 = (((i + j) / 2 : Nat) : Int) := by omega
        rw [em]
        go_roundw
        case rel => exact ⟨i, (i + j) / 2, rfl, rfl, HLE.out.1, HLE.out.2, by omega, hbl.trans (hb1.mono hbs)⟩
        case measure => simp [RowKit.intOf]; omega
    · have HE : Hid (i = fnd l k + 1 ∨ (i = 0 ∧ fnd l k = 0)) := Lib.hid (by omega)
      have hi0 : (0 : Int) ≤ i := by omega
      have hiI : (i : Int) ≤ 35184372088832 := by omega
      by_cases hin : i < l.length
      · obtain ⟨b, off, rfl, hbb, hcell⟩ := hc (by omega)
        obtain ⟨c0, c1⟩ := (hcell.below hbl hbb) i hin
        have hF := fun w => find1_any l[i] k w
        have HF := Lib.hid hF
        have HCL := Lib.hid hcell
        clear hF hcell hi hj hc
        generalize l[i] = x at *
        go_wp2_with fail
        refine (HF.out _).mono ?_
        rintro e w1 ⟨rfl, hw1⟩
        go_wp2_with fail
        all_goals
          go_ret2
          exact ⟨i, _, rfl, HE.out, hbl.trans (hw1.mono hbs)⟩
      · have hni : decide (i < l.length) = false := decide_eq_false hin
        clear hi hj hc
        go_wp2_with fail
        go_ret2
        exact ⟨i, _, rfl, HE.out, hbl⟩

set_option maxRecDepth 100000 in
set_option maxHeartbeats 400000 in
theorem find_any (v : Value) (l : List Chd) (k : ByteArray) (w : World) (hr : ReadsIt w w.heap.size v l) (hrise : Rise (l.drop 1)) (hl : l.length ≤ 35184372088832) :
    Calls Tryz.prog 109 #[v, .string k] w fun e w' => e = .returned (.int .i64 (fnd l k : Nat)) ∧ Below w.heap.size w w' := by
  have hb := bsf_any v l k w hr hrise hl
  unfold BsfTo at hb
  obtain ⟨A, c, rfl⟩ := hr.form
  have hfl := fnd_le l k
  generalize fnd l k = n at *
  clear hr
  go_enter Tryz.func109, Tryz.ntmps109
  go_wp2_with fail
  refine hb.mono ?_
  rintro e w1 ⟨i, T, rfl, hi, hb1⟩
  rcases hi with rfl | ⟨rfl, rfl⟩
  · have hn1 : (n : Int) ≤ 35184372088832 := by omega
    go_wp2_with fail
    go_ret
    exact ⟨ret_i64 (by omega), hb1⟩
  · go_wp2_with fail
    go_ret
    exact ⟨rfl, hb1⟩
end Go.Proofs.YtpoocbkligjgbaaGreatDoor.BR
