/-
  Walks over the document's own answers to chapter 8: GetLeaf. Walks over the document's own answers to chapter 8: GetLeaf's loop.
-/
import Derived.Test.YtpfifmjcmpankaaGreatMg43
import Derived.Test.YtpfifmjcmpankaaGreatMg44
import Derived.Test.YtpfifmjcmpankaaGreatMg26
namespace Go.Proofs.YtpfifmjcmpankaaGreat
open Go.RowKit Go.Lib

theorem rvar_int8 (l : List UInt8) : IsInt (rvar l).1 := by
  have h := gscan_u_lt l 0 0 (by omega) (by decide)
  unfold rvar
  split
  · simp only
    unfold unzig IsInt
    split <;> omega
  · simp only
    unfold IsInt
    omega
theorem rvarE_int (l : List UInt8) (n : Int) : IsInt (rvarE l n).1 := by
  unfold rvarE
  split
  · simp [IsInt]
  · exact rvar_int8 l
theorem rtext_len8 (most : Int) (l : List UInt8) : (rtext most l).1.length ≤ l.length := by
  have := rcount_rest most l
  unfold rtext
  split
  · simp
  · split
    · simp
    · simp only [List.length_take]; omega
theorem rtextE_len (most : Int) (l : List UInt8) (n : Int) : (rtextE most l n).1.length ≤ l.length := by
  unfold rtextE
  split
  · simp
  · exact rtext_len8 most l
theorem rboolE_rest (l : List UInt8) (n : Int) : (rboolE l n).2.1.length ≤ l.length := by
  unfold rboolE
  split
  · simp
  · exact rbool_rest l
/-- What the document reads, where a number of pages comes. -/
theorem doc_over {rest : List UInt8} (h1 : (rboolE (rtext 40 rest).2.1 (rtext 40 rest).2.2).1 = true) :
    (rtext 40 rest).2.2 = 0 ∧ rboolE (rtext 40 rest).2.1 (rtext 40 rest).2.2 = rbool (rtext 40 rest).2.1 ∧ (rbool (rtext 40 rest).2.1).2.2 = 0 := by
  by_cases h2 : (rtext 40 rest).2.2 = 0
  · have e : rboolE (rtext 40 rest).2.1 (rtext 40 rest).2.2 = rbool (rtext 40 rest).2.1 := by unfold rboolE; rw [if_neg (by simpa using h2)]
    rw [e] at h1
    refine ⟨h2, e, ?_⟩
    by_cases h3 : (rbool (rtext 40 rest).2.1).2.2 = 0
    · exact h3
    · rw [rbool_no h3] at h1; simp at h1
  · unfold rboolE at h1
    rw [if_pos h2] at h1
    simp at h1
theorem doc_item1 {rest : List UInt8} {kt : List UInt8} {r1 : List UInt8} {n1 : Int} {eb : Bool} {r2 : List UInt8} {n2 : Int} {o : Int} {r3 : List UInt8} {n3 : Int} {s : Int} {r4 : List UInt8} {n4 : Int}
    (hk : rtext 40 rest = (kt, r1, n1)) (he : rboolE r1 n1 = (eb, r2, n2)) (hb : eb = true) (ho : rvarE r2 n2 = (o, r3, n3)) (hs : rvarE r3 n3 = (s, r4, n4)) (h0 : o ≠ 0) :
    getItem rest = (⟨⟨kt.toArray⟩, ⟨#[]⟩, o, s⟩, r4, n4) := by
  have h := doc_over (rest := rest) (by rw [hk]; simp only; rw [he]; exact hb)
  rw [hk] at h
  simp only at h
  obtain ⟨rfl, e1, e2⟩ := h
  rw [he] at e1
  rw [← e1] at e2
  simp only at e2
  subst e2
  have ho' : rvar r2 = (o, r3, n3) := by unfold rvarE at ho; rwa [if_neg (by simp)] at ho
  have hn3 : n3 = 0 := by
    by_cases h3 : n3 = 0
    · exact h3
    · have := rvar_no (l := r2) (by rw [ho']; exact h3)
      rw [ho'] at this
      exact absurd this h0
  subst hn3
  have hs' : rvar r3 = (s, r4, n4) := by unfold rvarE at hs; rwa [if_neg (by simp)] at hs
  unfold getItem
  simp only [hk, ← e1, ho', hs', hb, ne_eq, not_true, if_false, if_true]
theorem doc_item0 {rest : List UInt8} {kt : List UInt8} {r1 : List UInt8} {n1 : Int} {eb : Bool} {r2 : List UInt8} {n2 : Int} {vt : List UInt8} {r3 : List UInt8} {n3 : Int}
    (hk : rtext 40 rest = (kt, r1, n1)) (he : rboolE r1 n1 = (eb, r2, n2)) (hb : eb = false) (hv : rtextE 60 r2 n2 = (vt, r3, n3)) :
    getItem rest = (⟨⟨kt.toArray⟩, ⟨vt.toArray⟩, 0, 0⟩, r3, n3) := by
  subst hb
  unfold getItem
  by_cases h1 : n1 = 0
  · subst h1
    have he' : rbool r1 = (false, r2, n2) := by unfold rboolE at he; rwa [if_neg (by simp)] at he
    by_cases h2 : n2 = 0
    · subst h2
      have hv' : rtext 60 r2 = (vt, r3, n3) := by unfold rtextE at hv; rwa [if_neg (by simp)] at hv
      simp only [hk, he', hv', ne_eq, not_true, if_false, Bool.false_eq_true]
    · have hv' : (([] : List UInt8), r2, n2) = (vt, r3, n3) := by unfold rtextE at hv; rwa [if_pos h2] at hv
      obtain ⟨rfl, rfl, rfl⟩ : [] = vt ∧ r2 = r3 ∧ n2 = n3 := by simpa using hv'
      simp only [hk, he', ne_eq, not_true, if_false, h2, not_false_eq_true, if_true]
  · have he' : (false, r1, n1) = (false, r2, n2) := by unfold rboolE at he; rwa [if_pos h1] at he
    obtain ⟨rfl, rfl⟩ : r1 = r2 ∧ n1 = n2 := by simpa using he'
    have hv' : (([] : List UInt8), r1, n1) = (vt, r3, n3) := by unfold rtextE at hv; rwa [if_pos h1] at hv
    obtain ⟨rfl, rfl, rfl⟩ : [] = vt ∧ r1 = r3 ∧ n1 = n3 := by simpa using hv'
    have hkt := rtext_no (most := 40) (l := rest) (by rw [hk]; exact h1)
    rw [hk] at hkt
    simp only at hkt
    subst hkt
    simp only [hk, ne_eq, h1, not_false_eq_true, if_true]
/-- A page of none: no items are laid so. -/
theorem doc_none {s rest : List UInt8} {l : List Itm} (h : GetInv s l rest) (hne : rest ≠ []) {kt : List UInt8} {r1 : List UInt8} {n1 : Int} {eb : Bool} {r2 : List UInt8} {n2 : Int} {r3 : List UInt8} {n3 : Int}
    (hk : rtext 40 rest = (kt, r1, n1)) (he : rboolE r1 n1 = (eb, r2, n2)) (hb : eb = true) (ho : rvarE r2 n2 = (0, r3, n3)) : ∀ L, ¬ IsLeaf s L := by
  rintro L ⟨hok, _, hs⟩
  obtain ⟨hlt, hg⟩ := h.head hne hok.1 hs
  obtain ⟨_, _, h3⟩ := h.all L hok.1 hs
  have hx := hok.1 _ (List.getElem_mem hlt)
  rw [List.drop_eq_getElem_cons hlt] at h3
  generalize L[l.length] = x at *
  have hov := doc_over (rest := rest) (by rw [hk]; simp only; rw [he]; exact hb)
  rw [hk] at hov
  simp only at hov
  obtain ⟨rfl, e1, e2⟩ := hov
  rw [he] at e1
  rw [← e1] at e2
  simp only at e2
  subst e2
  have ho' : rvar r2 = (0, r3, n3) := by unfold rvarE at ho; rwa [if_neg (by simp)] at ho
  -- the item's own page
  have hxo : x.over = 0 := by
    have h5 := congrArg (fun t : Itm × List UInt8 × Int => t.1.over) hg
    simp only at h5
    rw [← h5]
    unfold getItem
    simp only [hk, ← e1, hb, ho', ne_eq, not_true, if_false, if_true]
    split <;> rfl
  obtain ⟨k1, k2, _⟩ := right_cases hx
  have hk2 := rtext_laid (s := x.key) (most := 40) (by omega) (by omega) ((0 : UInt8) :: (textB x.val ++ leafB (L.drop (l.length + 1))))
  have hr : rest = textB x.key ++ ((0 : UInt8) :: (textB x.val ++ leafB (L.drop (l.length + 1)))) := by
    have e9 : itemB x = textB x.key ++ (0 :: textB x.val) := by unfold itemB; rw [if_pos hxo, if_pos hxo]
    rw [← h3]
    show List.flatMap _ _ = _
    rw [List.flatMap_cons, e9]
    simp [leafB]
  rw [← hr, hk] at hk2
  simp only [Prod.mk.injEq] at hk2
  have hb2 := rbool_laid false (textB x.val ++ leafB (L.drop (l.length + 1)))
  simp only [Bool.false_eq_true, if_false] at hb2
  rw [hk2.2.1, hb2] at e1
  simp only [Prod.mk.injEq] at e1
  rw [e1.1] at hb
  simp at hb

theorem getItem_fair8 (b : List UInt8) (h : b.length ≤ 100000) : (getItem b).1.fair := by
  have h1 := rtext_len8 40 b
  have h2 := rtext_rest 40 b
  have h3 := rbool_rest (rtext 40 b).2.1
  have h4 := rtext_len8 60 (rbool (rtext 40 b).2.1).2.1
  have z : IsInt 0 := by simp [IsInt]
  have e0 : (⟨#[]⟩ : ByteArray).size ≤ 100000 := by decide
  have e1 : (⟨(rtext 40 b).1.toArray⟩ : ByteArray).size ≤ 100000 := by simp [ByteArray.size]; omega
  have e2 : (⟨(rtext 60 (rbool (rtext 40 b).2.1).2.1).1.toArray⟩ : ByteArray).size ≤ 100000 := by simp [ByteArray.size]; omega
  unfold getItem Itm.fair
  simp only
  split
  · exact ⟨e0, e0, z, z⟩
  · split
    · exact ⟨e1, e0, z, z⟩
    · split
      · split
        · exact ⟨e1, e0, z, z⟩
        · exact ⟨e1, e0, rvar_int8 _, rvar_int8 _⟩
      · exact ⟨e1, e2, z, z⟩

/-- Where the document's Get stands. -/
structure RInv (s : List UInt8) (l : List Itm) (rest : List UInt8) (n : Int) : Prop where
  fair : ∀ x ∈ l, x.fair
  len : l.length ≤ s.length + 1
  ok : n = 0 → GetInv s l rest
  bad : n ≠ 0 → ∀ L, ¬ IsLeaf s L
theorem RInv.step {s rest : List UInt8} {l : List Itm} (h : RInv s l rest 0) (hne : rest ≠ []) (hs : s.length ≤ 100000) : RInv s (l ++ [(getItem rest).1]) (getItem rest).2.1 (getItem rest).2.2 := by
  have hi := h.ok rfl
  have hl := hi.len
  have hp : 0 < rest.length := List.length_pos_iff.2 hne
  refine ⟨fun x hx => ?_, by simp; omega, fun he => hi.step hne he, fun he => hi.none hne he⟩
  rcases List.mem_append.1 hx with hx | hx
  · exact h.fair x hx
  · simp at hx
    subst hx
    exact getItem_fair8 rest (by omega)
theorem putE_ok8 {l : List Itm} (h : putE l = 0) : OKL l ∧ sz l ≤ 240 := by
  unfold putE at h
  split at h
  · rename_i h1
    split at h
    · rename_i h2; exact ⟨h1, h2⟩
    · simp at h
  · simp at h

/-- Within a round: the item that is being read, in block z. -/
structure IAt (wr : World) (z p : Nat) (W : World) (cs : Array Value) (r : List UInt8) (n : Int) : Prop where
  has : Has W z 24 cs
  rd : RRd W p r n
  kept : Kept [p] wr W
  new : wr.heap.size ≤ z
  ne : z ≠ p
theorem IAt.call {wr W w' : World} {z p : Nat} {cs : Array Value} {r r' : List UInt8} {n n' : Int} (h : IAt wr z p W cs r n) (hr : RRd w' p r' n') (hk : Kept [p] W w') : IAt wr z p w' cs r' n' :=
  ⟨h.has.kept hk (by simpa using h.ne), hr, h.kept.trans hk, h.new, h.ne⟩
theorem IAt.store {wr W : World} {z p : Nat} {cs : Array Value} {r : List UInt8} {n : Int} (h : IAt wr z p W cs r n) (i : Nat) (u : Value) : IAt wr z p (W.setCell ⟨z, i, none⟩ u) (cs.setIfInBounds i u) r n := by
  have hks : Kept [z] W (W.setCell ⟨z, i, none⟩ u) := (Kept.refl _ _).setCell (p := ⟨z, i, none⟩) (.inl (by simp)) _
  exact ⟨h.has.put i u, h.rd.kept hks (by simpa using fun e => h.ne e.symm), h.kept.setCell (p := ⟨z, i, none⟩) (.inr h.new) _, h.new, h.ne⟩
theorem IAt.start {w : World} {p : Nat} {r : List UInt8} {n : Int} (h : RRd w p r n) : IAt w w.heap.size p (w.alloc (.cells #[.string ⟨#[]⟩, .string ⟨#[]⟩, .int .i64 0, .int .i64 0] 24)) #[.string ⟨#[]⟩, .string ⟨#[]⟩, .int .i64 0, .int .i64 0] r n :=
  ⟨Has.made _ _ _, h.below ((Below.refl _ _).alloc (Nat.le_refl _) _) h.inside, (Kept.refl _ _).alloc _, Nat.le_refl _, by have := h.inside; omega⟩
end Go.Proofs.YtpfifmjcmpankaaGreat

namespace Go.Proofs.YtpfifmjcmpankaaGreat
open Go.RowKit Go.Lib

set_option maxRecDepth 100000 in
set_option maxHeartbeats 8000000 in
theorem refGet_any (s : ByteArray) (w : World) (hs : s.size ≤ 99999) : Calls Tryz.prog 11 #[.string s] w (GetTo8 w s.data.toList) := by
  have hsl : s.data.toList.length = s.size := by simp
  go_enter Tryz.func11, Tryz.ntmps11
  go_wp2_with fail
  obtain ⟨W0, hW0⟩ : ∃ W0, W0 = w.alloc (.cells #[.string s, .int .i64 0] 100) := ⟨_, rfl⟩
  have hrd0 : RRd W0 w.heap.size s.data.toList 0 := ⟨s, rfl, by omega, by subst hW0; exact Has.made _ _ _⟩
  have hb0 : Below w.heap.size w W0 := by subst hW0; exact (Below.refl _ _).alloc (Nat.le_refl _) _
  rw [← hW0]
  obtain ⟨p, hp⟩ : ∃ p, w.heap.size = p := ⟨_, rfl⟩
  rw [hp] at hrd0 hb0 ⊢
  have HP := Lib.hid (And.intro hp (And.intro hrd0 (And.intro hb0 hsl)))
  clear hp hrd0 hb0 hsl hW0
  go_loopg [5] (s.size + 1) (fun g lv wr => ∃ l rest n, (n = 0 ∧ g = rest.length + 1 ∨ n ≠ 0 ∧ g = 0) ∧ RRd wr p rest n ∧ wr.ownsRow (p + 1) 24 4 lv l.length (ilist l) ∧ RInv s.data.toList l rest n ∧ Below p w wr)
  case atStart => exact ⟨[], s.data.toList, 0, .inl ⟨rfl, by rw [HP.out.2.2.2]⟩, HP.out.2.1, World.ownsRow_nil _ _ _ _, ⟨fun x hx => by simp at hx, by simp, fun _ => GetInv.start _, fun h => absurd rfl h⟩, HP.out.2.2.1⟩
  case round =>
    obtain ⟨l, rest, n, hg, hrd, hown, hinv, hbl⟩ := hrel
    have hlen := hinv.len
    rw [HP.out.2.2.2] at hlen
    obtain ⟨sr, hsd, hsz, hs63, c0, c1, f0, f1⟩ := hrd.cells
    have hin := hrd.inside
    have hform : ∃ A c, u5 = .slice A l.length c := (row_readsIt (row_lower hown (base' := p + 1) (Nat.le_refl _))).form
    obtain ⟨A, c, hA⟩ := hform
    subst hA
    by_cases hgo : n = 0 ∧ rest ≠ []
    · obtain ⟨rfl, hne⟩ := hgo
      have hpos : (0 : Int) < sr.size := by have := List.length_pos_iff.2 hne; omega
      have hg1 := hg.resolve_right (fun h => h.1 rfl)
      have ha0 := IAt.start hrd
      obtain ⟨z, hz⟩ : ∃ z, wr.heap.size = z := ⟨_, rfl⟩
      rw [hz] at ha0
      have hT := rrtext_any p rest 40 _ ha0.rd
      have HST := Lib.hid (hinv.step hne (by rw [HP.out.2.2.2]; omega))
      have HSH : Hid ((getItem rest).2.2 = 0 → (getItem rest).2.1.length < rest.length) := Lib.hid getItem_short
      have HGI := Lib.hid (And.intro (hinv.ok rfl) hne)
      obtain ⟨kt, r1, n1, hk⟩ : ∃ a b c, rtext 40 rest = (a, b, c) := ⟨_, _, _, rfl⟩
      rw [hk] at hT
      simp only at hT
      have HK := Lib.hid hk
      have HT := Lib.hid hT
      have HA := Lib.hid ha0
      have HH := Lib.hid (And.intro hown (And.intro hbl (And.intro hg1 hz)))
      obtain ⟨eb, r2, n2, he⟩ : ∃ a b c, rboolE r1 n1 = (a, b, c) := ⟨_, _, _, rfl⟩
      have HB := Lib.hid (fun W h => (rrbool_all p r1 n1 W h : Calls _ _ _ _ _))
      have HE := Lib.hid he
      obtain ⟨K, hK⟩ : ∃ K : ByteArray, (⟨kt.toArray⟩ : ByteArray) = K := ⟨_, rfl⟩
      have HKK := Lib.hid hK
      rw [hK] at HT
      clear hK hk hT ha0 hown hbl hinv hsd hs63 hg he
      go_wp2_with fail
      refine HT.out.mono ?_
      rintro e w2 ⟨rfl, hrd2, hk2⟩
      have HA2 := Lib.hid (HA.out.call hrd2 hk2)
      have q0 := HA2.out.has.cell 0
      have q1 := HA2.out.has.free 0
      simp at q0
      clear hrd2 hk2 c0 c1 f0 f1
      go_wp2_with fail
      have HA3 := Lib.hid (HA2.out.store 0 (.string K))
      obtain ⟨w3, hw3⟩ : ∃ w3, w3 = w2.setCell ⟨z, 0, none⟩ (.string K) := ⟨_, rfl⟩
      rw [← hw3] at HA3 ⊢
      have hB := HB.out w3 HA3.out.rd
      rw [HE.out] at hB
      simp only at hB
      clear hw3 q0 q1
      refine hB.mono ?_
      rintro e w4 ⟨rfl, hrd4, hk4⟩
      have HA4 := Lib.hid (HA3.out.call hrd4 hk4)
      clear hrd4 hk4 hB
      cases eb
      · obtain ⟨vt, r3, n3, hv⟩ : ∃ a b c, rtextE 60 r2 n2 = (a, b, c) := ⟨_, _, _, rfl⟩
        have hV := rrtext_all p r2 n2 60 w4 HA4.out.rd
        rw [hv] at hV
        simp only at hV
        have HGT := Lib.hid (doc_item0 HK.out HE.out rfl hv)
        obtain ⟨V, hVV⟩ : ∃ V : ByteArray, (⟨vt.toArray⟩ : ByteArray) = V := ⟨_, rfl⟩
        rw [hVV] at hV
        have HVV := Lib.hid hVV
        clear hVV hv
        go_wp2_with fail
        refine hV.mono ?_
        rintro e w5 ⟨rfl, hrd5, hk5⟩
        have HA5 := Lib.hid (HA4.out.call hrd5 hk5)
        have q0 := HA5.out.has.cell 1
        have q1 := HA5.out.has.free 1
        simp at q0
        have HA6 := Lib.hid (HA5.out.store 1 (.string V))
        obtain ⟨w6, hw6⟩ : ∃ w6, w6 = w5.setCell ⟨z, 1, none⟩ (.string V) := ⟨_, rfl⟩
        have HW6 := Lib.hid hw6
        rw [← hw6] at HA6
        clear hw6 hrd5 hk5 hV
        have d0 := HA6.out.has.cell 0
        have d1 := HA6.out.has.cell 1
        have d2 := HA6.out.has.cell 2
        have d3 := HA6.out.has.cell 3
        simp at d0 d1 d2 d3
        have hown6 := row_kept HH.out.1 HA6.out.kept (fun g hg hin => by have := (HH.out.1.lt g hg).1; simp at hin; omega)
        have hp6 : p + 1 ≤ w6.heap.size := HA6.out.rd.inside
        have hrx : ReadsIt (w6.alloc (iobj ⟨K, V, 0, 0⟩)) (w6.heap.size + 1) (.slice (some ⟨w6.heap.size, 0, none⟩) 1 1) [⟨K, V, 0, 0⟩] := ReadsIt.built w6 [⟨K, V, 0, 0⟩] (by unfold maxLen; simp)
        have hown6a := hown6.alloc (iobj ⟨K, V, 0, 0⟩)
        have hpa : p + 1 ≤ (w6.alloc (iobj ⟨K, V, 0, 0⟩)).heap.size := by simp; omega
        have hl1 : l.length + [(⟨K, V, 0, 0⟩ : Itm)].length ≤ 1000000 := by simp; omega
        clear hown6
        go_wp2_with (first
          | (rw [← HW6.out])
          | (at_builtin; refine append_its rfl _ _ rfl (p + 1) _ (.slice A l.length c) l rfl hown6a _ (.slice (some ⟨w6.heap.size, 0, none⟩) 1 1) rfl [⟨K, V, 0, 0⟩] hrx hl1 hpa ?_; intro v7 w7 hown7 hb7))
        have hst := HST.out
        have hsh := HSH.out
        rw [HGT.out] at hst hsh
        simp only [HKK.out, HVV.out] at hst hsh
        have hrdE := (HA6.out.rd.below (((Below.refl (p + 1) w6).alloc (by omega) _).trans hb7) (by omega))
        have hbE : Below p w w7 := HH.out.2.1.trans ((HA6.out.kept.below (by omega) (fun i hi => by simp at hi; omega)).trans (((Below.refl p w6).alloc (by omega) _).trans (hb7.mono (by omega))))
        have hg1 := HH.out.2.2.1
        go_roundg (if n3 = 0 then r3.length + 1 else 0)
        case measure =>
          split
          · rename_i h; have := hsh h; omega
          · omega
        case rel =>
          refine ⟨l ++ [⟨K, V, 0, 0⟩], r3, n3, ?_, hrdE, hown7, hst, hbE⟩
          split
          · rename_i h; exact .inl ⟨h, rfl⟩
          · rename_i h; exact .inr ⟨h, rfl⟩
      · obtain ⟨o, r3, n3, ho⟩ : ∃ a b c, rvarE r2 n2 = (a, b, c) := ⟨_, _, _, rfl⟩
        obtain ⟨sz, r4, n4, hsi⟩ : ∃ a b c, rvarE r3 n3 = (a, b, c) := ⟨_, _, _, rfl⟩
        have hO := rrvar_all p r2 n2 w4 HA4.out.rd
        rw [ho] at hO
        simp only at hO
        have HO := Lib.hid ho
        have HS := Lib.hid hsi
        clear ho hsi
        go_wp2_with fail
        refine hO.mono ?_
        rintro e w5 ⟨rfl, hrd5, hk5⟩
        have HA5 := Lib.hid (HA4.out.call hrd5 hk5)
        have q0 := HA5.out.has.cell 2
        have q1 := HA5.out.has.free 2
        simp at q0
        have HA6 := Lib.hid (HA5.out.store 2 (.int .i64 o))
        clear hrd5 hk5 hO
        go_wp2_with fail
        obtain ⟨w6, hw6⟩ : ∃ w6, w6 = w5.setCell ⟨z, 2, none⟩ (.int .i64 o) := ⟨_, rfl⟩
        rw [← hw6] at HA6 ⊢
        have hS := rrvar_all p r3 n3 w6 HA6.out.rd
        rw [HS.out] at hS
        simp only at hS
        clear hw6 q0 q1
        refine hS.mono ?_
        rintro e w7 ⟨rfl, hrd7, hk7⟩
        have HA7 := Lib.hid (HA6.out.call hrd7 hk7)
        have q0 := HA7.out.has.cell 3
        have q1 := HA7.out.has.free 3
        simp at q0
        have HA8 := Lib.hid (HA7.out.store 3 (.int .i64 sz))
        obtain ⟨w8, hw8⟩ : ∃ w8, w8 = w7.setCell ⟨z, 3, none⟩ (.int .i64 sz) := ⟨_, rfl⟩
        have HW8 := Lib.hid hw8
        rw [← hw8] at HA8
        clear hw8 hrd7 hk7 hS
        have d0 := HA8.out.has.cell 0
        have d1 := HA8.out.has.cell 1
        have d2 := HA8.out.has.cell 2
        have d3 := HA8.out.has.cell 3
        simp at d0 d1 d2 d3
        by_cases hoz : o = 0
        · subst hoz
          have HNO := Lib.hid (doc_none HGI.out.1 HGI.out.2 HK.out HE.out rfl HO.out)
          go_wp2_with (rw [← HW8.out])
          go_ret2
          have hbE : Below p w w8 := HH.out.2.1.trans (HA8.out.kept.below (by omega) (fun i hi => by simp at hi; omega))
          exact ⟨_, .inr ⟨rfl, rfl, HNO.out, by rw [HP.out.1]; exact hbE⟩⟩
        · have hoz1 : (o == 0) = false := by rw [beq_eq_false_iff_ne]; exact hoz
          have HGT := Lib.hid (doc_item1 HK.out HE.out rfl HO.out HS.out hoz)
          have hown8 := row_kept HH.out.1 HA8.out.kept (fun g hg hin => by have := (HH.out.1.lt g hg).1; simp at hin; omega)
          have hp8 : p + 1 ≤ w8.heap.size := HA8.out.rd.inside
          have hrx : ReadsIt (w8.alloc (iobj ⟨K, ⟨#[]⟩, o, sz⟩)) (w8.heap.size + 1) (.slice (some ⟨w8.heap.size, 0, none⟩) 1 1) [⟨K, ⟨#[]⟩, o, sz⟩] := ReadsIt.built w8 [⟨K, ⟨#[]⟩, o, sz⟩] (by unfold maxLen; simp)
          have hown8a := hown8.alloc (iobj ⟨K, ⟨#[]⟩, o, sz⟩)
          have hpa : p + 1 ≤ (w8.alloc (iobj ⟨K, ⟨#[]⟩, o, sz⟩)).heap.size := by simp; omega
          have hl1 : l.length + [(⟨K, ⟨#[]⟩, o, sz⟩ : Itm)].length ≤ 1000000 := by simp; omega
          clear hown8 hoz
          go_wp2_with (first
            | (rw [← HW8.out])
            | (at_builtin; refine append_its rfl _ _ rfl (p + 1) _ (.slice A l.length c) l rfl hown8a _ (.slice (some ⟨w8.heap.size, 0, none⟩) 1 1) rfl [⟨K, ⟨#[]⟩, o, sz⟩] hrx hl1 hpa ?_; intro v9 w9 hown9 hb9))
          have hst := HST.out
          have hsh := HSH.out
          rw [HGT.out] at hst hsh
          simp only [HKK.out] at hst hsh
          have hrdE := (HA8.out.rd.below (((Below.refl (p + 1) w8).alloc (by omega) _).trans hb9) (by omega))
          have hbE : Below p w w9 := HH.out.2.1.trans ((HA8.out.kept.below (by omega) (fun i hi => by simp at hi; omega)).trans (((Below.refl p w8).alloc (by omega) _).trans (hb9.mono (by omega))))
          have hg1 := HH.out.2.2.1
          go_roundg (if n4 = 0 then r4.length + 1 else 0)
          case measure =>
            split
            · rename_i h; have := hsh h; omega
            · omega
          case rel =>
            refine ⟨l ++ [⟨K, ⟨#[]⟩, o, sz⟩], r4, n4, ?_, hrdE, hown9, hst, hbE⟩
            split
            · rename_i h; exact .inl ⟨h, rfl⟩
            · rename_i h; exact .inr ⟨h, rfl⟩
    · have hpw : p ≤ wr.heap.size := Nat.le_of_lt hin
      have hri := row_readsIt (row_lower hown (base' := 0) (Nat.zero_le _))
      have hpu := refPutLeaf_any _ l wr hri hinv.fair (by omega)
      have hrow := row_lower hown (base' := p) (by omega)
      by_cases hyes : n = 0 ∧ putE l = 0 ∧ putB l = s.data.toList
      · obtain ⟨rfl, y1, y2⟩ := hyes
        have hre : rest = [] := by
          cases rest with
          | nil => rfl
          | cons a r => exact absurd ⟨rfl, by simp⟩ hgo
        subst hre
        have hst : (⟨s.data.toList.toArray⟩ : ByteArray) = s := by simp
        rw [y1, y2, hst] at hpu
        have hok := putE_ok8 y1
        have hleaf : IsLeaf s.data.toList l := ⟨hok.1, hok.2, by unfold putB at y2; rwa [if_pos hok] at y2⟩
        have hsz1 : sr.size = 0 := by rw [hsz]; rfl
        have hsz0 : ¬ (0 : Int) < sr.size := by omega
        have hsz0' : (sr.size : Int) = 0 := by omega
        have HH := Lib.hid (And.intro hleaf (And.intro hrow (And.intro hbl hrd)))
        clear hleaf hok y1 y2 hst hrow hbl hinv hown hri hlen hrd hg hgo hsz hsd
        go_wp2_with fail
        refine hpu.mono ?_
        rintro e w3 ⟨rfl, hb3⟩
        obtain ⟨sr3, _, _, _, e0, e1, _, _⟩ := (HH.out.2.2.2.below hb3 hin).cells
        have H3 := Lib.hid hb3
        clear hb3 hpu c0 c1 f0 f1
        go_wp2_with fail
        go_ret2
        have hrow3 := row_kept (F := []) HH.out.2.1 (Kept.of_below H3.out) (fun _ _ h => by simp at h)
        exact ⟨.slice A l.length c, .inl ⟨l, rfl, HH.out.1, by rw [HP.out.1]; exact hrow3, by rw [HP.out.1]; exact HH.out.2.2.1.trans (H3.out.mono hpw)⟩⟩
      · have hno : ∀ L, ¬ IsLeaf s.data.toList L := by
          intro L hL
          by_cases hn : n = 0
          · have hre : rest = [] := by
              cases rest with
              | nil => rfl
              | cons a r => exact absurd ⟨hn, by simp⟩ hgo
            subst hre
            obtain rfl := (hinv.ok hn).done hL
            obtain ⟨h1, h2, h3⟩ := hL
            exact hyes ⟨hn, by unfold putE; rw [if_pos h1, if_pos h2], by unfold putB; rw [if_pos ⟨h1, h2⟩, h3]⟩
          · exact hinv.bad hn L hL
        have HH := Lib.hid (And.intro hno (And.intro hbl hrd))
        by_cases hn : n = 0
        · subst hn
          have hre : rest = [] := by
            cases rest with
            | nil => rfl
            | cons a r => exact absurd ⟨rfl, by simp⟩ hgo
          subst hre
          have hsz1 : sr.size = 0 := by rw [hsz]; rfl
          have hsz0 : ¬ (0 : Int) < sr.size := by omega
          have hsz0' : (sr.size : Int) = 0 := by omega
          by_cases hE : putE l = 0
          · have hts : ((⟨(putB l).toArray⟩ : ByteArray).toList == s.toList) = false := by
              rw [beq_eq_false_iff_ne]
              intro h
              have h2 := congrArg (fun b : ByteArray => b.data.toList) (toList_inj h)
              simp only at h2
              exact hyes ⟨rfl, hE, by simpa using h2⟩
            rw [hE] at hpu
            generalize (⟨(putB l).toArray⟩ : ByteArray) = t at *
            clear hno hyes hrow hbl hinv hown hri hlen hE hrd hg hgo hsz hsd
            go_wp2_with fail
            refine hpu.mono ?_
            rintro e w3 ⟨rfl, hb3⟩
            obtain ⟨sr3, _, _, _, e0, e1, _, _⟩ := (HH.out.2.2.below hb3 hin).cells
            have H3 := Lib.hid hb3
            clear hb3 hpu c0 c1 f0 f1
            go_wp2_with fail
            go_ret2
            exact ⟨_, .inr ⟨rfl, rfl, HH.out.1, by rw [HP.out.1]; exact HH.out.2.1.trans (H3.out.mono hpw)⟩⟩
          · have hEb : (putE l != 0) = true := by simpa using hE
            generalize (⟨(putB l).toArray⟩ : ByteArray) = t at *
            generalize putE l = E at *
            clear hno hyes hrow hbl hinv hown hri hlen hE hrd hg hgo hsz hsd
            go_wp2_with fail
            refine hpu.mono ?_
            rintro e w3 ⟨rfl, hb3⟩
            obtain ⟨sr3, _, _, _, e0, e1, _, _⟩ := (HH.out.2.2.below hb3 hin).cells
            have H3 := Lib.hid hb3
            clear hb3 hpu c0 c1 f0 f1
            go_wp2_with fail
            go_ret2
            exact ⟨_, .inr ⟨rfl, rfl, HH.out.1, by rw [HP.out.1]; exact HH.out.2.1.trans (H3.out.mono hpw)⟩⟩
        · have hn1 : (n == 0) = false := by simpa using hn
          have hn2 : (n != 0) = true := by simpa using hn
          generalize (⟨(putB l).toArray⟩ : ByteArray) = t at *
          generalize putE l = E at *
          clear hno hyes hrow hbl hinv hown hri hlen hrd hg hgo hsz hsd
          go_wp2_with fail
          refine hpu.mono ?_
          rintro e w3 ⟨rfl, hb3⟩
          obtain ⟨sr3, _, _, _, e0, e1, _, _⟩ := (HH.out.2.2.below hb3 hin).cells
          have H3 := Lib.hid hb3
          clear hb3 hpu c0 c1 f0 f1
          go_wp2_with fail
          go_ret2
          exact ⟨_, .inr ⟨rfl, rfl, HH.out.1, by rw [HP.out.1]; exact HH.out.2.1.trans (H3.out.mono hpw)⟩⟩
end Go.Proofs.YtpfifmjcmpankaaGreat
