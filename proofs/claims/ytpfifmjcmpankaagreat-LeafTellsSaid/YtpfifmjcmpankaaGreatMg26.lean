/-
  Walks over package leaf: Get.
-/
import Derived.Test.YtpfifmjcmpankaaGreatMg19
import Derived.Test.YtpfifmjcmpankaaGreatMg20
import Derived.Test.YtpfifmjcmpankaaGreatMg25
import Derived.Deep.LoopGhost
namespace Go.Proofs.YtpfifmjcmpankaaGreat
open Go.RowKit Go.Lib

theorem rvar_short {l : List UInt8} (h : (rvar l).2.2 = 0) : (rvar l).2.1.length < l.length := by
  unfold rvar at h ⊢
  rcases gscan_err l 0 0 with ⟨h0, h1⟩ | h4 | h5
  · rw [if_pos h0] at h ⊢
    have h2 := gscan_n_le l 0 0
    simp only [List.length_drop]
    omega
  · rw [h4] at h; simp at h
  · rw [h5] at h; simp at h
theorem rtext_short {most : Int} {l : List UInt8} (h : (rtext most l).2.2 = 0) : (rtext most l).2.1.length < l.length := by
  have hc : (rcount most l).2.2 = 0 ∧ (rtext most l).2.1.length ≤ (rcount most l).2.1.length := by
    unfold rtext at h ⊢
    by_cases h1 : (rcount most l).2.2 = 0
    · refine ⟨h1, ?_⟩
      rw [if_neg (by simpa using h1)]
      split
      · exact Nat.le_refl _
      · simp only [List.length_drop]; omega
    · rw [if_pos h1] at h
      exact absurd h h1
  have hv : (rcount most l).2.1 = (rvar l).2.1 ∧ (rvar l).2.2 = 0 := by
    have h1 := hc.1
    unfold rcount at h1 ⊢
    by_cases h2 : (rvar l).2.2 = 0
    · rw [if_neg (by simpa using h2)] at h1 ⊢
      refine ⟨?_, h2⟩
      split
      · rfl
      · split
        · rfl
        · rfl
    · rw [if_pos h2] at h1
      exact absurd h1 h2
  have := rvar_short hv.2
  rw [← hv.1] at this
  omega
theorem rvar_rest' (l : List UInt8) : (rvar l).2.1.length ≤ l.length := rvar_rest l
theorem getItem_short {b : List UInt8} (h : (getItem b).2.2 = 0) : (getItem b).2.1.length < b.length := by
  unfold getItem at h ⊢
  by_cases h1 : (rtext 40 b).2.2 = 0
  · have k1 := rtext_short h1
    simp only [ne_eq, h1, not_true, if_false] at h ⊢
    have k2 := rbool_rest (rtext 40 b).2.1
    split at h
    · rename_i h2; exact absurd h h2
    · rename_i h2
      rw [if_neg h2]
      split at h
      · rename_i h3
        rw [if_pos h3]
        have k3 := rvar_rest (rbool (rtext 40 b).2.1).2.1
        split at h
        · rename_i h4; exact absurd h h4
        · rename_i h4
          rw [if_neg h4]
          have k4 := rvar_rest (rvar (rbool (rtext 40 b).2.1).2.1).2.1
          simp only
          omega
      · rename_i h3
        rw [if_neg h3]
        have k5 := rtext_rest 60 (rbool (rtext 40 b).2.1).2.1
        simp only
        omega
  · simp only [ne_eq, h1, not_false_eq_true, if_true] at h

/-- Where Get stands: it has read the items l, the bytes rest are left. -/
structure GetInv (s : List UInt8) (l : List Itm) (rest : List UInt8) : Prop where
  len : l.length + rest.length ≤ s.length
  all : ∀ L, (∀ x ∈ L, rightB x = true) → leafB L = s → l.length ≤ L.length ∧ L.take l.length = l ∧ leafB (L.drop l.length) = rest
theorem leafB_ne {x : Itm} {L : List Itm} (h : rightB x = true) : leafB (x :: L) ≠ [] := by
  have h1 := (right_len h).2
  intro e
  have := congrArg List.length e
  simp only [leafB, List.flatMap_cons, List.length_append, List.length_nil] at this
  omega
theorem GetInv.start (s : List UInt8) : GetInv s [] s := ⟨by simp, fun L _ h => ⟨by simp, by simp, by simpa using h⟩⟩
theorem GetInv.head {s rest : List UInt8} {l L : List Itm} (h : GetInv s l rest) (hne : rest ≠ []) (hL : ∀ x ∈ L, rightB x = true) (hs : leafB L = s) : ∃ hlt : l.length < L.length, getItem rest = (L[l.length], leafB (L.drop (l.length + 1)), 0) := by
  obtain ⟨h1, h2, h3⟩ := h.all L hL hs
  by_cases hlt : l.length < L.length
  · refine ⟨hlt, ?_⟩
    rw [List.drop_eq_getElem_cons hlt] at h3
    have e : leafB (L[l.length] :: L.drop (l.length + 1)) = itemB L[l.length] ++ leafB (L.drop (l.length + 1)) := by show List.flatMap _ _ = _; rw [List.flatMap_cons]; rfl
    rw [← h3, e]
    exact getItem_laid (hL _ (List.getElem_mem hlt)) _
  · rw [List.drop_eq_nil_of_le (by omega)] at h3
    exact absurd h3.symm hne
theorem GetInv.step {s rest : List UInt8} {l : List Itm} (h : GetInv s l rest) (hne : rest ≠ []) (he : (getItem rest).2.2 = 0) : GetInv s (l ++ [(getItem rest).1]) (getItem rest).2.1 := by
  have hsh := getItem_short he
  refine ⟨by have := h.len; simp; omega, fun L hL hs => ?_⟩
  obtain ⟨hlt, hg⟩ := h.head hne hL hs
  obtain ⟨h1, h2, h3⟩ := h.all L hL hs
  rw [hg]
  simp only [List.length_append, List.length_singleton]
  refine ⟨hlt, ?_, trivial⟩
  rw [List.take_succ_eq_append_getElem hlt, h2]
theorem GetInv.none {s rest : List UInt8} {l : List Itm} (h : GetInv s l rest) (hne : rest ≠ []) (he : (getItem rest).2.2 ≠ 0) : ∀ L, ¬ IsLeaf s L := by
  rintro L ⟨hok, _, hs⟩
  obtain ⟨_, hg⟩ := h.head hne hok.1 hs
  rw [hg] at he
  exact he rfl
theorem GetInv.done {s : List UInt8} {l L : List Itm} (h : GetInv s l []) (hL : IsLeaf s L) : L = l := by
  obtain ⟨hok, _, hs⟩ := hL
  obtain ⟨h1, h2, h3⟩ := h.all L hok.1 hs
  have h4 : L.drop l.length = [] := by
    cases hd : L.drop l.length with
    | nil => rfl
    | cons x r =>
      rw [hd] at h3
      exact absurd h3 (leafB_ne (hok.1 x (List.mem_of_mem_drop (i := l.length) (by rw [hd]; simp))))
  have h5 : L.take l.length ++ L.drop l.length = l ++ [] := by rw [h2, h4]
  simpa using h5

/-- What Get comes to. -/
def GetTo8 (w : World) (s : List UInt8) (e : Ending) (w' : World) : Prop :=
  ∃ v, (∃ l, e = .returned (.tuple #[v, .int .i64 0]) ∧ IsLeaf s l ∧ w'.ownsRow w.heap.size 24 4 v l.length (ilist l) ∧ Below w.heap.size w w') ∨ (e = .returned (.tuple #[v, .int .i64 4]) ∧ v = .slice none 0 0 ∧ (∀ l, ¬ IsLeaf s l) ∧ Below w.heap.size w w')

set_option maxRecDepth 100000 in
set_option maxHeartbeats 2000000 in
theorem get_any8 (s : ByteArray) (w : World) (hs : s.size ≤ 9223372036854775807) : Calls Tryz.prog 10 #[.string s] w (GetTo8 w s.data.toList) := by
  have hsl : s.data.toList.length = s.size := by simp
  by_cases h240 : s.size ≤ 240
  · have hnew := new_any s w hs
    have hs1 : (s.size : Int) ≤ 240 := by omega
    go_enter Tryz.func10, Tryz.ntmps10
    go_wp2_with fail
    refine hnew.mono ?_
    rintro e w1 ⟨rfl, hrd, hb1⟩
    obtain ⟨p, hp⟩ : ∃ p, w.heap.size = p := ⟨_, rfl⟩
    rw [hp] at hrd hb1 ⊢
    have HP := Lib.hid (And.intro hp (And.intro hrd hb1))
    clear hp hrd hb1 hnew
    go_wp2_with fail
    go_loopg [4] s.size (fun g lv wr => ∃ l rest, g = rest.length ∧ Rd wr p rest 0 ∧ wr.ownsRow (p + 1) 24 4 lv l.length (ilist l) ∧ GetInv s.data.toList l rest ∧ Below p w wr)
    case atStart => exact ⟨[], s.data.toList, hsl.symm, HP.out.2.1, World.ownsRow_nil _ _ _ _, GetInv.start _, HP.out.2.2⟩
    case round =>
      obtain ⟨l, rest, hg, hrd, hown, hinv, hbl⟩ := hrel
      have hen := end_any p rest 0 wr hrd
      have hlen := hinv.len
      by_cases hne : rest = []
      · subst hne
        have he0 : endOf [] 0 = 0 := rfl
        have hpw : p ≤ wr.heap.size := Nat.le_of_lt hrd.inside
        rw [he0] at hen
        have hll : l.length ≤ 240 := by simp at hlen; omega
        have hri := row_readsIt (row_lower hown (base' := 0) (Nat.zero_le _))
        have hpu := put_any u4 l wr hri (by omega)
        have hrow := row_lower hown (base' := p) (by omega)
        obtain ⟨A, c, hA⟩ := hri.form
        subst hA
        by_cases hyes : putE l = 0 ∧ putB l = s.data.toList
        · obtain ⟨y1, y2⟩ := hyes
          have hst : (⟨s.data.toList.toArray⟩ : ByteArray) = s := by simp
          rw [y1, y2, hst] at hpu
          have hok : OKL l ∧ sz l ≤ 240 := by
            unfold putE at y1
            split at y1
            · rename_i h1
              split at y1
              · rename_i h2; exact ⟨h1, h2⟩
              · simp at y1
            · simp at y1
          have hleaf : IsLeaf s.data.toList l := ⟨hok.1, hok.2, by unfold putB at y2; rwa [if_pos hok] at y2⟩
          have HH := Lib.hid (And.intro hleaf (And.intro hrow hbl))
          clear hleaf hok y1 y2 hst hrow hbl hinv hown hri hlen hrd
          go_wp2_with fail
          refine hen.mono ?_
          rintro e w2 ⟨rfl, rfl⟩
          go_wp2_with fail
          refine hpu.mono ?_
          rintro e w3 ⟨rfl, hb3⟩
          have H3 := Lib.hid hb3
          clear hb3 hpu hen
          go_wp2_with fail
          go_ret2
          have hrow3 := row_kept (F := []) HH.out.2.1 (Kept.of_below H3.out) (fun _ _ h => by simp at h)
          exact ⟨.slice A l.length c, .inl ⟨l, rfl, HH.out.1, by rw [HP.out.1]; exact hrow3, by rw [HP.out.1]; exact HH.out.2.2.trans (H3.out.mono hpw)⟩⟩
        · have hno : ∀ L, ¬ IsLeaf s.data.toList L := by
            intro L hL
            obtain rfl := hinv.done hL
            obtain ⟨h1, h2, h3⟩ := hL
            refine hyes ⟨by unfold putE; rw [if_pos h1, if_pos h2], by unfold putB; rw [if_pos ⟨h1, h2⟩, h3]⟩
          by_cases hE : putE l = 0
          · have hts : ¬ ((⟨(putB l).toArray⟩ : ByteArray).toList = s.toList) := by
              intro h
              have h2 := congrArg (fun b : ByteArray => b.data.toList) (toList_inj h)
              simp only at h2
              exact hyes ⟨hE, by simpa using h2⟩
            rw [hE] at hpu
            have HH := Lib.hid (And.intro hno hbl)
            generalize (⟨(putB l).toArray⟩ : ByteArray) = t at *
            have htb : (t.toList == s.toList) = false := by simpa using hts
            clear hno hyes hrow hbl hinv hown hri hlen hE hrd hts
            go_wp2_with fail
            refine hen.mono ?_
            rintro e w2 ⟨rfl, rfl⟩
            go_wp2_with fail
            refine hpu.mono ?_
            rintro e w3 ⟨rfl, hb3⟩
            have H3 := Lib.hid hb3
            clear hb3 hpu hen
            go_wp2_with fail
            go_ret2
            exact ⟨_, .inr ⟨rfl, rfl, HH.out.1, by rw [HP.out.1]; exact HH.out.2.trans (H3.out.mono hpw)⟩⟩
          · have hEb : (putE l != 0) = true := by simpa using hE
            have HH := Lib.hid (And.intro hno hbl)
            generalize (⟨(putB l).toArray⟩ : ByteArray) = t at *
            generalize putE l = E at *
            clear hno hyes hrow hbl hinv hown hri hlen hE hrd
            go_wp2_with fail
            refine hen.mono ?_
            rintro e w2 ⟨rfl, rfl⟩
            go_wp2_with fail
            refine hpu.mono ?_
            rintro e w3 ⟨rfl, hb3⟩
            have H3 := Lib.hid hb3
            clear hb3 hpu hen
            go_wp2_with fail
            go_ret2
            exact ⟨_, .inr ⟨rfl, rfl, HH.out.1, by rw [HP.out.1]; exact HH.out.2.trans (H3.out.mono hpw)⟩⟩
      · have he4 : endOf rest 0 = 4 := by unfold endOf; rw [if_pos rfl, if_neg hne]
        rw [he4] at hen
        have hra := read_any p rest wr hrd (by omega)
        have hin := hrd.inside
        cases hgi : getItem rest with
        | mk x r =>
        obtain ⟨r1, n1⟩ := r
        rw [hgi] at hra
        unfold ReadTo8 at hra
        simp only at hra
        have HH := Lib.hid (And.intro hown (And.intro hinv (And.intro hbl (And.intro hgi (And.intro hne hg)))))
        have hform : ∃ A c, u4 = .slice A l.length c := by
          obtain ⟨A, c, h⟩ := (row_readsIt (row_lower hown (base' := p + 1) (Nat.le_refl _))).form
          exact ⟨A, c, h⟩
        obtain ⟨A, c, hA⟩ := hform
        subst hA
        clear hown hinv hbl hgi hg hrd
        go_wp2_with fail
        refine hen.mono ?_
        rintro e w2 ⟨rfl, rfl⟩
        clear hen
        go_wp2_with fail
        refine hra.mono ?_
        rintro e w3 ⟨rfl, hrd3, hk3⟩
        have hown3 := row_kept HH.out.1 hk3 (fun g hg hin => by have := (HH.out.1.lt g hg).1; simp at hin; omega)
        have hp3 : p + 1 ≤ w3.heap.size := hrd3.inside
        have hrx : ReadsIt (w3.alloc (iobj x)) (w3.heap.size + 1) (.slice (some ⟨w3.heap.size, 0, none⟩) 1 1) [x] := ReadsIt.built w3 [x] (by unfold maxLen; simp)
        have hown3a := hown3.alloc (iobj x)
        have hpa : p + 1 ≤ (w3.alloc (iobj x)).heap.size := by simp; omega
        have hl1 : l.length + [x].length ≤ 1000000 := by simp; omega
        have H3 := Lib.hid (And.intro hrd3 hk3)
        clear hra hrd3 hk3 hown3
        go_wp2_with (at_builtin; refine append_its rfl _ _ rfl (p + 1) _ (.slice A l.length c) l rfl hown3a _ (.slice (some ⟨w3.heap.size, 0, none⟩) 1 1) rfl [x] hrx hl1 hpa ?_; intro v4 w4 hown4 hb4)
        have hrd4 : Rd w4 p r1 n1 := (H3.out.1.below ((Below.refl _ _).alloc (Nat.le_refl _) _) (by omega)).below hb4 (by omega)
        have hce : w4.cell? ⟨p, 1, none⟩ = some (.int .i64 n1) := by
          obtain ⟨s4, _, _, h4⟩ := hrd4
          exact h4.cell 1
        have her := err_at p n1 w4 hce
        have hk34 : Below p wr w4 := (H3.out.2.below (by omega) (by intro k hk; simp at hk; omega)).trans (((Below.refl p w3).alloc (by omega) _).trans (hb4.mono (by omega)))
        have H4 := Lib.hid (And.intro hown4 (And.intro hrd4 hk34))
        clear hown4 hb4 hrd4 hk34 hce
        obtain ⟨hown, hinv, hbl, hgi, hne', hg⟩ := HH.out
        by_cases hn1 : n1 = 0
        · subst hn1
          have hst := hinv.step hne' (by rw [hgi])
          have hsh := getItem_short (b := rest) (by rw [hgi])
          rw [hgi] at hst hsh
          simp only at hst hsh
          have HI := Lib.hid (And.intro hst (And.intro hsh hbl))
          clear hown hinv hbl hgi hne' hst hsh
          have hgH := Lib.hid hg
          clear hg
          go_wp2_with fail
          refine her.mono ?_
          rintro e w5 ⟨rfl, rfl⟩
          go_wp2_with fail
          go_roundg r1.length
          case measure => have := HI.out.2.1; have := hgH.out; omega
          case rel => exact ⟨l ++ [x], r1, rfl, H4.out.2.1, H4.out.1, HI.out.1, HI.out.2.2.trans H4.out.2.2⟩
        · have hno := hinv.none hne' (by rw [hgi]; exact hn1)
          have HI := Lib.hid (And.intro hno hbl)
          have hn1b : (n1 != 0) = true := by simpa using hn1
          clear hown hinv hbl hgi hne' hno hg
          go_wp2_with fail
          refine her.mono ?_
          rintro e w5 ⟨rfl, rfl⟩
          go_wp2_with fail
          go_ret2
          exact ⟨_, .inr ⟨rfl, rfl, HI.out.1, by rw [HP.out.1]; exact HI.out.2.trans H4.out.2.2⟩⟩
  · have hno : ∀ l, ¬ IsLeaf s.data.toList l := by
      rintro l ⟨_, h1, h2⟩
      unfold sz at h1
      rw [h2, hsl] at h1
      omega
    have h241 : (240 : Int) < s.size := by omega
    go_enter Tryz.func10, Tryz.ntmps10
    go_wp2_with fail
    go_ret2
    exact ⟨_, .inr ⟨rfl, rfl, hno, Below.refl _ _⟩⟩
end Go.Proofs.YtpfifmjcmpankaaGreat
