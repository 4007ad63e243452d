/-
  Walks over the document's own answers to chapter 9: GetBranch.
-/
import Derived.Test.YtpfifmjcmpankaaGreatMg40
import Derived.Test.YtpfifmjcmpankaaGreatMg41
import Derived.Test.YtpfifmjcmpankaaGreatMg22
namespace Go.Proofs.YtpfifmjcmpankaaGreat.BR
open Go.RowKit Go.Lib

theorem rvar_int (l : List UInt8) : IsInt (rvar l).1 := by
  have h := gscan_u_lt l 0 0 (by omega) (by decide)
  unfold rvar
  split
  · simp only
    unfold unzig IsInt
    split <;> omega
  · simp only
    unfold IsInt
    omega
theorem rtext_len (most : Int) (l : List UInt8) : (rtext most l).1.length ≤ l.length := by
  have := rcount_rest most l
  unfold rtext
  split
  · simp
  · split
    · simp
    · simp only [List.length_take]; omega
theorem getItem_E (b : List UInt8) : getItem b = (⟨⟨(rtext 40 b).1.toArray⟩, (rvarE (rtext 40 b).2.1 (rtext 40 b).2.2).1⟩, (rvarE (rtext 40 b).2.1 (rtext 40 b).2.2).2.1, (rvarE (rtext 40 b).2.1 (rtext 40 b).2.2).2.2) := by
  unfold getItem rvarE
  simp only
  split <;> rfl
theorem getItem_fair (b : List UInt8) (h : b.length ≤ 100000) : (getItem b).1.fair := by
  have h1 := rtext_len 40 b
  unfold getItem Chd.fair
  simp only
  split
  · exact ⟨by simp [ByteArray.size]; omega, by unfold IsInt; simp⟩
  · exact ⟨by simp [ByteArray.size]; omega, rvar_int _⟩

/-- Where the document's Get stands. -/
structure RInv (s : List UInt8) (l : List Chd) (rest : List UInt8) (n : Int) : Prop where
  fair : ∀ x ∈ l, x.fair
  len : l.length ≤ s.length + 1
  ok : n = 0 → GetInv s l rest
  bad : n ≠ 0 → ∀ L, ¬ IsLeaf s L
theorem RInv.step {s rest : List UInt8} {l : List Chd} (h : RInv s l rest 0) (hne : rest ≠ []) (hs : s.length ≤ 100000) : RInv s (l ++ [(getItem rest).1]) (getItem rest).2.1 (getItem rest).2.2 := by
  have hi := h.ok rfl
  have hl := hi.len
  have hp : 0 < rest.length := List.length_pos_iff.2 hne
  refine ⟨fun x hx => ?_, by simp; omega, fun he => hi.step hne he, fun he => hi.none hne he⟩
  rcases List.mem_append.1 hx with hx | hx
  · exact h.fair x hx
  · simp at hx
    subst hx
    exact getItem_fair rest (by omega)
theorem okl_of {l : List Chd} (y1 : putE l = 0) : OKL l ∧ sz l ≤ 240 := putE_ok y1

set_option maxRecDepth 100000 in
set_option maxHeartbeats 4000000 in
theorem refGet_any (s : ByteArray) (w : World) (hs : s.size ≤ 99999) : Calls Tryz.prog 34 #[.string s] w (GetTo8 w s.data.toList) := by
  have hsl : s.data.toList.length = s.size := by simp
  go_enter Tryz.func34, Tryz.ntmps34
  go_wp2_with fail
  obtain ⟨W0, hW0⟩ : ∃ W0, W0 = w.alloc (.cells #[.string s, .int .i64 0] 100) := ⟨_, rfl⟩
  have hrd0 : RRd W0 w.heap.size s.data.toList 0 := ⟨s, rfl, by omega, by subst hW0; exact Has.made _ _ _⟩
  have hb0 : Below w.heap.size w W0 := by subst hW0; exact (Below.refl _ _).alloc (Nat.le_refl _) _
  rw [← hW0]
  obtain ⟨p, hp⟩ : ∃ p, w.heap.size = p := ⟨_, rfl⟩
  rw [hp] at hrd0 hb0 ⊢
  have HP := Lib.hid (And.intro hp (And.intro hrd0 (And.intro hb0 hsl)))
  clear hp hrd0 hb0 hsl hW0
  go_loopg [5] (s.size + 1) (fun g lv wr => ∃ l rest n, (n = 0 ∧ g = rest.length + 1 ∨ n ≠ 0 ∧ g = 0) ∧ RRd wr p rest n ∧ wr.ownsRow (p + 1) 131 2 lv l.length (ilist l) ∧ RInv s.data.toList l rest n ∧ Below p w wr)
  case atStart => exact ⟨[], s.data.toList, 0, .inl ⟨rfl, by rw [HP.out.2.2.2]⟩, HP.out.2.1, World.ownsRow_nil _ _ _ _, ⟨fun x hx => by simp at hx, by simp, fun _ => GetInv.start _, fun h => absurd rfl h⟩, HP.out.2.2.1⟩
  case round =>
    obtain ⟨l, rest, n, hg, hrd, hown, hinv, hbl⟩ := hrel
    have hlen := hinv.len
    rw [HP.out.2.2.2] at hlen
    obtain ⟨sr, hsd, hsz, hs63, c0, c1, f0, f1⟩ := hrd.cells
    have hin := hrd.inside
    have hform : ∃ A c, u5 = .slice A l.length c := (row_readsIt (row_lower hown (base' := p + 1) (Nat.le_refl _))).form
    obtain ⟨A, c, hA⟩ := hform
    subst hA
    by_cases hgo : n = 0 ∧ rest ≠ []
    · obtain ⟨rfl, hne⟩ := hgo
      have hpos : (0 : Int) < sr.size := by have := List.length_pos_iff.2 hne; omega
      have hg1 := hg.resolve_right (fun h => h.1 rfl)
      obtain ⟨z, hz⟩ : ∃ z, wr.heap.size = z := ⟨_, rfl⟩
      have hw1 : Below wr.heap.size wr (wr.alloc (.cells #[.string ⟨#[]⟩, .int .i64 0] 131)) := (Below.refl _ _).alloc (Nat.le_refl _) _
      have hz1 := Has.made wr 131 #[.string ⟨#[]⟩, .int .i64 0]
      have hrd1 := hrd.below hw1 hin
      have hT := rrtext_any p rest 40 _ hrd1
      have hV := fun W hW => rrvar_all p (rtext 40 rest).2.1 (rtext 40 rest).2.2 W hW
      have hge := getItem_E rest
      have hst := hinv.step hne (by rw [HP.out.2.2.2]; omega)
      have hsh : (getItem rest).2.2 = 0 → (getItem rest).2.1.length < rest.length := getItem_short
      rw [hge] at hst hsh
      simp only at hst hsh
      generalize (⟨(rtext 40 rest).1.toArray⟩ : ByteArray) = K at *
      generalize (rtext 40 rest).2.1 = r1 at *
      generalize (rtext 40 rest).2.2 = n1 at *
      rcases hrv : rvarE r1 n1 with ⟨pg, r2, n2⟩
      simp only [hrv] at hV hst hsh
      have HT := Lib.hid hT
      have HV := Lib.hid hV
      have HH := Lib.hid (And.intro hown (And.intro hst (And.intro hsh (And.intro hbl (And.intro hg1 (And.intro hz1 (And.intro hw1 hz)))))))
      clear hT hV hown hst hsh hbl hg1 hz1 hw1 hinv hrd hrd1 hge hsd hs63 hg hrv
      go_wp2_with fail
      refine HT.out.mono ?_
      rintro e w2 ⟨rfl, hrd2, hk2⟩
      obtain ⟨hown, hst, hsh, hbl, hg1, hz1, hw1, hz⟩ := HH.out
      have hzp : z ≠ p := by omega
      rw [hz] at hz1
      have hz2 := hz1.kept hk2 (by simpa using hzp)
      have q0 := hz2.cell 0
      have q1 := hz2.free 0
      simp at q0
      have H2 := Lib.hid (And.intro hrd2 (And.intro hk2 hz2))
      clear hown hst hsh hbl hg1 hz1 hw1 hrd2 hk2 hz2 c0 c1 f0 f1
      go_wp2_with fail
      obtain ⟨hrd2, hk2, hz2⟩ := H2.out
      have hz3 : Has (w2.setCell ⟨z, 0, none⟩ (.string K)) z 131 #[.string K, .int .i64 0] := by simpa using hz2.put 0 (.string K)
      have hks : Kept [z] w2 (w2.setCell ⟨z, 0, none⟩ (.string K)) := (Kept.refl _ _).setCell (p := ⟨z, 0, none⟩) (.inl (by simp)) _
      have hrd3 := hrd2.kept hks (by simpa using fun e => hzp e.symm)
      obtain ⟨w3, hw3⟩ : ∃ w3, w3 = w2.setCell ⟨z, 0, none⟩ (.string K) := ⟨_, rfl⟩
      rw [← hw3] at hz3 hks hrd3 ⊢
      have hV3 := HV.out w3 hrd3
      have H3 := Lib.hid (And.intro hz3 hks)
      clear hrd2 hk2 hz2 hz3 hks hrd3 hw3 q0 q1
      refine hV3.mono ?_
      rintro e w4 ⟨rfl, hrd4, hk4⟩
      have hz4 := H3.out.1.kept hk4 (by simpa using hzp)
      have q0 := hz4.cell 0
      have q1 := hz4.cell 1
      have f1 := hz4.free 1
      simp at q0 q1
      have hz5 : Has (w4.setCell ⟨z, 1, none⟩ (.int .i64 pg)) z 131 #[.string K, .int .i64 pg] := by simpa using hz4.put 1 (.int .i64 pg)
      have hks5 : Kept [z] w4 (w4.setCell ⟨z, 1, none⟩ (.int .i64 pg)) := (Kept.refl _ _).setCell (p := ⟨z, 1, none⟩) (.inl (by simp)) _
      have hrd5 := hrd4.kept hks5 (by simpa using fun e => hzp e.symm)
      obtain ⟨hown, hst, hsh, hbl, hg1, hz1, hw1, _⟩ := HH.out
      -- all that has turned since the round began: the reader, and what is new
      have hkall : Kept [p] wr (w4.setCell ⟨z, 1, none⟩ (.int .i64 pg)) := by
        have h1 : Kept [p] wr w2 := (Kept.of_below hw1).trans H2.out.2.1
        have h2 : Kept [p] wr w3 := h1.then_ H3.out.2 (fun i hi => by simp at hi; subst hi; exact .inr (by omega))
        exact (h2.trans hk4).then_ hks5 (fun i hi => by simp at hi; subst hi; exact .inr (by omega))
      have hown5 := row_kept hown hkall (fun g hg hin => by have := (hown.lt g hg).1; simp at hin; omega)
      have hb5 : Below p wr (w4.setCell ⟨z, 1, none⟩ (.int .i64 pg)) := hkall.below (by omega) (fun i hi => by simp at hi; omega)
      obtain ⟨w5, hw5⟩ : ∃ w5, w5 = w4.setCell ⟨z, 1, none⟩ (.int .i64 pg) := ⟨_, rfl⟩
      rw [← hw5] at hz5 hks5 hrd5 hown5 hb5
      have d0 := hz5.cell 0
      have d1 := hz5.cell 1
      simp at d0 d1
      have hp5 : p + 1 ≤ w5.heap.size := hrd5.inside
      have hrx : ReadsIt (w5.alloc (iobj ⟨K, pg⟩)) (w5.heap.size + 1) (.slice (some ⟨w5.heap.size, 0, none⟩) 1 1) [⟨K, pg⟩] := ReadsIt.built w5 [⟨K, pg⟩] (by unfold maxLen; simp)
      have hown5a := hown5.alloc (iobj ⟨K, pg⟩)
      have hpa : p + 1 ≤ (w5.alloc (iobj ⟨K, pg⟩)).heap.size := by simp; omega
      have hl1 : l.length + [(⟨K, pg⟩ : Chd)].length ≤ 1000000 := by simp; omega
      have H5 := Lib.hid (And.intro hrd5 hb5)
      have HW5 := Lib.hid hw5
      have HST := Lib.hid (And.intro hst (And.intro hsh (And.intro hbl hg1)))
      clear hV3 hrd4 hk4 hz4 hks5 hrd5 hown hst hsh hbl hg1 hz1 hw1 hkall hown5 hb5 hw5 hz5 HV HT
      go_wp2_with (first
        | (rw [← HW5.out])
        | (at_builtin; refine append_its rfl _ _ rfl (p + 1) _ (.slice A l.length c) l rfl hown5a _ (.slice (some ⟨w5.heap.size, 0, none⟩) 1 1) rfl [⟨K, pg⟩] hrx hl1 hpa ?_; intro v6 w6 hown6 hb6))
      obtain ⟨hst, hsh, hbl, hg1⟩ := HST.out
      have hrd6 := H5.out.1.below (((Below.refl (p + 1) w5).alloc (by omega) _).trans hb6) (by omega)
      have hb06 : Below p w w6 := hbl.trans (H5.out.2.trans (((Below.refl p w5).alloc (by omega) _).trans (hb6.mono (by omega))))
      go_roundg (if n2 = 0 then r2.length + 1 else 0)
      case measure =>
        split
        · rename_i h; have := hsh h; omega
        · omega
      case rel =>
        refine ⟨l ++ [⟨K, pg⟩], r2, n2, ?_, hrd6, hown6, hst, hb06⟩
        split
        · rename_i h; exact .inl ⟨h, rfl⟩
        · rename_i h; exact .inr ⟨h, rfl⟩
    · have hpw : p ≤ wr.heap.size := Nat.le_of_lt hin
      have hri := row_readsIt (row_lower hown (base' := 0) (Nat.zero_le _))
      have hpu := refPutLeaf_any _ l wr hri hinv.fair (by omega)
      have hrow := row_lower hown (base' := p) (by omega)
      by_cases hyes : n = 0 ∧ putE l = 0 ∧ putB l = s.data.toList
      · obtain ⟨rfl, y1, y2⟩ := hyes
        have hre : rest = [] := by
          cases rest with
          | nil => rfl
          | cons a r => exact absurd ⟨rfl, by simp⟩ hgo
        subst hre
        have hst : (⟨s.data.toList.toArray⟩ : ByteArray) = s := by simp
        rw [y1, y2, hst] at hpu
        have hok := putE_ok y1
        have hleaf : IsLeaf s.data.toList l := ⟨hok.1, hok.2, by unfold putB at y2; rwa [if_pos hok] at y2⟩
        have hsz1 : sr.size = 0 := by rw [hsz]; rfl
        have hsz0 : ¬ (0 : Int) < sr.size := by omega
        have hsz0' : (sr.size : Int) = 0 := by omega
        have HH := Lib.hid (And.intro hleaf (And.intro hrow (And.intro hbl hrd)))
        clear hleaf hok y1 y2 hst hrow hbl hinv hown hri hlen hrd hg hgo hsz hsd
        go_wp2_with fail
        refine hpu.mono ?_
        rintro e w3 ⟨rfl, hb3⟩
        obtain ⟨sr3, _, _, _, e0, e1, _, _⟩ := (HH.out.2.2.2.below hb3 hin).cells
        have H3 := Lib.hid hb3
        clear hb3 hpu c0 c1 f0 f1
        go_wp2_with fail
        go_ret2
        have hrow3 := row_kept (F := []) HH.out.2.1 (Kept.of_below H3.out) (fun _ _ h => by simp at h)
        exact ⟨.slice A l.length c, .inl ⟨l, rfl, HH.out.1, by rw [HP.out.1]; exact hrow3, by rw [HP.out.1]; exact HH.out.2.2.1.trans (H3.out.mono hpw)⟩⟩
      · have hno : ∀ L, ¬ IsLeaf s.data.toList L := by
          intro L hL
          by_cases hn : n = 0
          · have hre : rest = [] := by
              cases rest with
              | nil => rfl
              | cons a r => exact absurd ⟨hn, by simp⟩ hgo
            subst hre
            obtain rfl := (hinv.ok hn).done hL
            obtain ⟨h1, h2, h3⟩ := hL
            exact hyes ⟨hn, by unfold putE; rw [if_pos h1, if_pos h2], by unfold putB; rw [if_pos ⟨h1, h2⟩, h3]⟩
          · exact hinv.bad hn L hL
        have HH := Lib.hid (And.intro hno (And.intro hbl hrd))
        by_cases hn : n = 0
        · subst hn
          have hre : rest = [] := by
            cases rest with
            | nil => rfl
            | cons a r => exact absurd ⟨rfl, by simp⟩ hgo
          subst hre
          have hsz1 : sr.size = 0 := by rw [hsz]; rfl
          have hsz0 : ¬ (0 : Int) < sr.size := by omega
          have hsz0' : (sr.size : Int) = 0 := by omega
          by_cases hE : putE l = 0
          · have hts : ((⟨(putB l).toArray⟩ : ByteArray).toList == s.toList) = false := by
              rw [beq_eq_false_iff_ne]
              intro h
              have h2 := congrArg (fun b : ByteArray => b.data.toList) (toList_inj h)
              simp only at h2
              exact hyes ⟨rfl, hE, by simpa using h2⟩
            rw [hE] at hpu
            generalize (⟨(putB l).toArray⟩ : ByteArray) = t at *
            clear hno hyes hrow hbl hinv hown hri hlen hE hrd hg hgo hsz hsd
            go_wp2_with fail
            refine hpu.mono ?_
            rintro e w3 ⟨rfl, hb3⟩
            obtain ⟨sr3, _, _, _, e0, e1, _, _⟩ := (HH.out.2.2.below hb3 hin).cells
            have H3 := Lib.hid hb3
            clear hb3 hpu c0 c1 f0 f1
            go_wp2_with fail
            go_ret2
            exact ⟨_, .inr ⟨rfl, rfl, HH.out.1, by rw [HP.out.1]; exact HH.out.2.1.trans (H3.out.mono hpw)⟩⟩
          · have hEb : (putE l != 0) = true := by simpa using hE
            generalize (⟨(putB l).toArray⟩ : ByteArray) = t at *
            generalize putE l = E at *
            clear hno hyes hrow hbl hinv hown hri hlen hE hrd hg hgo hsz hsd
            go_wp2_with fail
            refine hpu.mono ?_
            rintro e w3 ⟨rfl, hb3⟩
            obtain ⟨sr3, _, _, _, e0, e1, _, _⟩ := (HH.out.2.2.below hb3 hin).cells
            have H3 := Lib.hid hb3
            clear hb3 hpu c0 c1 f0 f1
            go_wp2_with fail
            go_ret2
            exact ⟨_, .inr ⟨rfl, rfl, HH.out.1, by rw [HP.out.1]; exact HH.out.2.1.trans (H3.out.mono hpw)⟩⟩
        · have hn1 : (n == 0) = false := by simpa using hn
          have hn2 : (n != 0) = true := by simpa using hn
          generalize (⟨(putB l).toArray⟩ : ByteArray) = t at *
          generalize putE l = E at *
          clear hno hyes hrow hbl hinv hown hri hlen hrd hg hgo hsz hsd
          go_wp2_with fail
          refine hpu.mono ?_
          rintro e w3 ⟨rfl, hb3⟩
          obtain ⟨sr3, _, _, _, e0, e1, _, _⟩ := (HH.out.2.2.below hb3 hin).cells
          have H3 := Lib.hid hb3
          clear hb3 hpu c0 c1 f0 f1
          go_wp2_with fail
          go_ret2
          exact ⟨_, .inr ⟨rfl, rfl, HH.out.1, by rw [HP.out.1]; exact HH.out.2.1.trans (H3.out.mono hpw)⟩⟩
end Go.Proofs.YtpfifmjcmpankaaGreat.BR
