/-
  FreePlays: where it starts; a lent list among blocks that stay; a list of things that are done, where it lies. FreePlays: what a thing that is done leaves; two lists that were kept.
-/
import Derived.Test.YtjimjemogbphaaaGreatMg31
import Derived.Test.YtjimjemogbphaaaGreatMg33
namespace Go.Proofs.YtjimjemogbphaaaGreat
open Go.RowKit Go.Sort

theorem play_start {base B pf pr : Nat} {w : World} {F : List Nat} {l L : List Int} {vL : Value} (h1 : FreeIs pf w F l ((0 : Nat) : Int) [] []) (hF : ∀ x ∈ F, base ≤ x ∧ x < B) (h2 : RFr w pr vL nilV nilV L [] []) (hR : ∀ x ∈ rffoot pr vL nilV nilV, base ≤ x ∧ B ≤ x) (hsz : base ≤ w.heap.size) :
    PlayS base (w.alloc (.cells (bookCells nilV nilV nilV nilV) 61)) [] pf l 0 [] [] pr L [] [] w.heap.size [] := by
  have hb : Below w.heap.size w (w.alloc (.cells (bookCells nilV nilV nilV nilV) 61)) := (Below.refl _ _).alloc (Nat.le_refl _) _
  have hbf : bfoot w.heap.size nilV nilV [] = [w.heap.size] := rfl
  refine ⟨F, vL, nilV, nilV, nilV, nilV, ⟨h1.below hb, h2.below hb, BookAt.new w, fun x hx => (hF x hx).1, fun x hx => (hR x hx).1, ?_, ?_, ?_, ?_, by simp, Nat.le_trans hsz hb.size⟩⟩
  · rw [hbf]
    intro x hx
    simp at hx
    omega
  · intro x hx hin
    have := (hF x hx).2
    have := (hR x hin).2
    omega
  · rw [hbf]
    intro x hx hin
    simp at hin
    have := h1.lt x hx
    omega
  · rw [hbf]
    intro x hx hin
    simp at hin
    have := h2.lt x hx
    omega

/-- A list with room behind it, and a mark there, in block g. -/
structure LentAt (w : World) (g n c : Nat) (vals : List Value) : Prop where
  len : vals.length = n
  room : n + 1 ≤ c
  cap : c ≤ maxLen
  lt : g < w.heap.size
  cell : ∀ j u, (vals ++ [markI])[j]? = some u → w.cell? ⟨g, j, none⟩ = some u
theorem LentAt.of {w : World} {B : Nat} {vals : List Value} {v : Value} (h : Lent w B vals markI v) : ∃ g c, v = .slice (some ⟨g, 0, none⟩) vals.length c ∧ B ≤ g ∧ LentAt w g vals.length c vals := by
  obtain ⟨g, c, rfl, h1, h2, h3, h4, h5⟩ := h
  exact ⟨g, c, rfl, h1, rfl, h3, h4, h2, h5⟩
theorem LentAt.keep {w w' : World} {g n c : Nat} {vals : List Value} (h : LentAt w g n c vals) (hk : w'.heap[g]? = w.heap[g]?) (hs : w.heap.size ≤ w'.heap.size) : LentAt w' g n c vals :=
  ⟨h.len, h.room, h.cap, Nat.lt_of_lt_of_le h.lt hs, fun j u hu => (World.cell?_of_block (a := ⟨g, j, none⟩) hk).trans (h.cell j u hu)⟩
theorem LentAt.lent {w : World} {g n c : Nat} {vals : List Value} (h : LentAt w g n c vals) : Lent w 0 vals markI (.slice (some ⟨g, 0, none⟩) n c) :=
  ⟨g, c, by rw [h.len], Nat.zero_le _, h.lt, by rw [h.len]; exact h.room, h.cap, h.cell⟩
theorem LentAt.readsS {w : World} {base g n c : Nat} {vals : List Value} {S : List Nat} (h : LentAt w g n c vals) (hS : g ∈ S) : ReadsS base w S (.slice (some ⟨g, 0, none⟩) n c) vals :=
  ⟨some ⟨g, 0, none⟩, c, by rw [h.len], fun _ => ⟨g, 0, rfl, h.lt, .inr hS, fun j u hu => by
    rw [Nat.zero_add]
    refine h.cell j u ?_
    rw [List.getElem?_append_left]
    · exact hu
    · exact (List.getElem?_eq_some_iff.1 hu).1⟩⟩
/-- What came in. -/
theorem Reads1.readsS {w w' : World} {base : Nat} {S : List Nat} {v : Value} {xs : List Value} (h : Reads1 w base v xs) (hb : Below base w w') (hs : base ≤ w'.heap.size) : ReadsS base w' S v xs := by
  obtain ⟨A, c, rfl, h⟩ := h
  refine ⟨A, c, rfl, fun hn => ?_⟩
  obtain ⟨b, off, rfl, hlt, hc⟩ := h hn
  exact ⟨b, off, rfl, by omega, .inl hlt, fun j u hu => (hb.cell (p := ⟨b, off + j, none⟩) hlt).trans (hc j u hu)⟩

theorem ReadsOps.at {w w' : World} {v : Value} {os : List OpL} (h : ReadsOps w v os) (hb : Below w.heap.size w w') (i : Nat) (hi : i < os.length) :
    ∃ b off c, v = .slice (some ⟨b, off, none⟩) os.length c ∧ w'.cell? ⟨b, off + i * 3, none⟩ = some (.int .i64 os[i].k) ∧ w'.cell? ⟨b, off + i * 3 + 1, none⟩ = some (.int .i64 os[i].n) ∧ w'.cell? ⟨b, off + i * 3 + 2, none⟩ = some os[i].v := by
  obtain ⟨A, c, rfl, h⟩ := h
  obtain ⟨b, off, rfl, hlt, hc⟩ := h (by omega)
  obtain ⟨h1, h2, h3⟩ := hc i hi
  exact ⟨b, off, c, rfl, (hb.cell (p := ⟨b, off + i * 3, none⟩) hlt).trans h1, (hb.cell (p := ⟨b, off + i * 3 + 1, none⟩) hlt).trans h2, (hb.cell (p := ⟨b, off + i * 3 + 2, none⟩) hlt).trans h3⟩

section
variable {base p pr pb sq : Nat} {w w' : World} {S : List Nat} {l k L P : List Int} {m : List Due} {W : List (Int × Int)} {KL : List KeptI}
/-- A row that has come meanwhile is set aside. -/
theorem PlayS.aside {v : Value} {e : TypeId} {s n : Nat} {xs : List Value} (h : PlayS base w S p l sq m k pr L W P pb KL) (hb : Below w.heap.size w w') (hr : w'.ownsRow w.heap.size e s v n xs) :
    PlayS base w' (v.ownBlock.toList ++ S) p l sq m k pr L W P pb KL ∧ ∀ g, v.ownBlock = some g → base ≤ g ∧ g ∉ S := by
  have hsz := h.size
  have hS : ∀ x ∈ S, x < w.heap.size := by
    obtain ⟨F, vL, vW, vP, hv, hc, h⟩ := h
    exact fun x hx => (h.s x hx).1
  refine ⟨?_, fun g hg => ⟨Nat.le_trans hsz (hr.lt g hg).1, fun hin => by have := hS g hin; have := (hr.lt g hg).1; omega⟩⟩
  rcases hv : v.ownBlock with _ | g
  · exact (h.below hb).1
  · exact h.keep hb (hr.lt g hv).1 (hr.lt g hv).2
end
end Go.Proofs.YtjimjemogbphaaaGreat

namespace Go.Proofs.YtjimjemogbphaaaGreat
open Go.RowKit Go.Sort

/-- What a thing that is done leaves. -/
def Turned (base : Nat) (w1 : World) (gm ob pf pr pb i : Nat) (KL : List KeptI) (wt : World) : Prop :=
  ∃ (l k L P : List Int) (W : List (Int × Int)) (sq : Nat) (m : List Due), PlayS base wt [gm, ob] pf l sq m k pr L W P pb KL ∧ Agr (i + 1) l sq m k L W P ∧ PLeft base [gm, ob] w1 wt

theorem row_same {w w' : World} {base : Nat} {e : TypeId} {s n : Nat} {v : Value} {xs : List Value} (h : w.ownsRow base e s v n xs) (hk : ∀ g, v.ownBlock = some g → w'.heap[g]? = w.heap[g]?) : w'.ownsRow base e s v n xs := by
  refine ⟨h.1, ?_⟩
  rcases h.2 with hn | ⟨g, cap, cur, rfl, hb, hg, rest⟩
  · exact .inl hn
  · exact .inr ⟨g, cap, cur, rfl, hb, (hk g rfl).trans hg, rest⟩

section
variable {base p pr pb sq : Nat} {wb wc wd : World} {S : List Nat} {l k L P : List Int} {m : List Due} {W : List (Int × Int)} {KL KL1 KL2 : List KeptI}
theorem two_rows {va vb : Value} {xs ys : List Int} (h2 : PlayS base wd S p l sq m k pr L W P pb KL2) (hL : KL.length ≤ 250) (hL1 : KL1.length ≤ 250)
    (ra : wb.ownsRow 0 3 1 va xs.length (cellsI xs)) (rb : wb.ownsRow 0 3 1 vb ys.length (cellsI ys))
    (f1 : KL.length = 250 → wc = wb ∧ KL1 = KL) (a1 : KL.length < 250 → ∃ c, KL1 = KL ++ [⟨va, c, xs⟩]) (f2 : KL1.length = 250 → wd = wc ∧ KL2 = KL1) (a2 : KL1.length < 250 → ∃ c, KL2 = KL1 ++ [⟨vb, c, ys⟩])
    (rb1 : wc.ownsRow 0 3 1 vb ys.length (cellsI ys)) (hk : ∀ x ∈ KL, x.xs.length ≤ 900000) (hx : xs.length ≤ 900000) (hy : ys.length ≤ 900000) :
    wd.ownsRow 0 3 1 va xs.length (cellsI xs) ∧ wd.ownsRow 0 3 1 vb ys.length (cellsI ys) ∧ ∀ x ∈ KL2, x.xs.length ≤ 900000 := by
  have hk1 : ∀ x ∈ KL1, x.xs.length ≤ 900000 := by
    rcases Nat.lt_or_ge KL.length 250 with h | h
    · obtain ⟨c, rfl⟩ := a1 h
      intro x hx'
      rcases List.mem_append.1 hx' with h | h
      · exact hk x h
      · obtain rfl : x = ⟨va, c, xs⟩ := by simpa using h
        exact hx
    · rw [(f1 (by omega)).2]
      exact hk
  have hk2 : ∀ x ∈ KL2, x.xs.length ≤ 900000 := by
    rcases Nat.lt_or_ge KL1.length 250 with h | h
    · obtain ⟨c, rfl⟩ := a2 h
      intro x hx'
      rcases List.mem_append.1 hx' with h | h
      · exact hk1 x h
      · obtain rfl : x = ⟨vb, c, ys⟩ := by simpa using h
        exact hy
    · rw [(f2 (by omega)).2]
      exact hk1
  refine ⟨?_, ?_, hk2⟩
  · rcases Nat.lt_or_ge KL.length 250 with h | h
    · obtain ⟨c, e1⟩ := a1 h
      have hin : (⟨va, c, xs⟩ : KeptI) ∈ KL1 := by rw [e1]; simp
      have hin2 : (⟨va, c, xs⟩ : KeptI) ∈ KL2 := by
        rcases Nat.lt_or_ge KL1.length 250 with h' | h'
        · obtain ⟨c', e2⟩ := a2 h'
          rw [e2]
          exact List.mem_append.2 (.inl hin)
        · rw [(f2 (by omega)).2]
          exact hin
      exact h2.row hin2
    · obtain ⟨e1, e1'⟩ := f1 (by omega)
      have : KL1.length = 250 := by rw [e1']; omega
      rw [(f2 this).1, e1]
      exact ra
  · rcases Nat.lt_or_ge KL1.length 250 with h | h
    · obtain ⟨c, e2⟩ := a2 h
      exact h2.row (x := ⟨vb, c, ys⟩) (by rw [e2]; simp)
    · rw [(f2 (by omega)).1]
      exact rb1
theorem PlayS.drew (h : PlayS base wb S p l sq m k pr L W P pb KL) : PlayS base wb.drew S p l sq m k pr L W P pb KL := (h.below (w' := wb.drew) ⟨rfl, rfl, rfl, Nat.le_refl _, fun _ _ => rfl⟩).1
theorem PLeft.drew (base : Nat) (S : List Nat) (w : World) : PLeft base S w w.drew := ⟨⟨rfl, rfl, rfl, Nat.le_refl _, fun _ _ => rfl⟩, Nat.le_refl _, fun _ _ => rfl⟩
theorem play_all (h : PlayS base wb S p l sq m k pr L W P pb KL) (hfew : l.length + m.length ≤ 1000000) :
    Calls Tryz.prog 23 #[.pointer (some ⟨p, 0, none⟩)] wb fun e w' => ∃ v', e = .returned v' ∧ w'.ownsRow wb.heap.size 3 1 v' ((l ++ whats m).mergeSort leInt).length (cellsI ((l ++ whats m).mergeSort leInt)) ∧ Below wb.heap.size wb w' := by
  obtain ⟨F, h1, h2⟩ := h.fre
  have he : ((l ++ whats m).mergeSort leInt).length = l.length + m.length := by rw [List.length_mergeSort, List.length_append]; simp [whats]
  rw [he]
  exact fall_any h1 hfew
theorem play_list (h : PlayS base wb S p l sq m k pr L W P pb KL) :
    Calls Tryz.prog 22 #[.pointer (some ⟨p, 0, none⟩)] wb fun e w' => ∃ v', e = .returned v' ∧ w'.ownsRow wb.heap.size 3 1 v' (l.mergeSort leInt).length (cellsI (l.mergeSort leInt)) ∧ Below wb.heap.size wb w' := by
  have he : (l.mergeSort leInt).length = l.length := List.length_mergeSort _
  rw [he]
  exact fre_list h.fre
theorem row_low {w : World} {base base' : Nat} {e : TypeId} {s n : Nat} {v : Value} {xs : List Value} (h : w.ownsRow base e s v n xs) (hb : base' ≤ base) : w.ownsRow base' e s v n xs := by
  refine ⟨h.1, ?_⟩
  rcases h.2 with hn | ⟨g, cap, cur, rfl, hb1, rest⟩
  · exact .inl hn
  · exact .inr ⟨g, cap, cur, rfl, Nat.le_trans hb hb1, rest⟩
theorem row_there {w w' : World} {base : Nat} {e : TypeId} {s n : Nat} {v : Value} {xs : List Value} (h : w.ownsRow base e s v n xs) (hb : Below w.heap.size w w') : w'.ownsRow base e s v n xs :=
  row_same h (fun g hg => hb.block g (h.lt g hg).2)
/-- Two lists that were answered, both aside. -/
theorem two_aside {va vb : Value} {n1 n2 : Nat} {xs ys : List Value} (h : PlayS base wb S p l sq m k pr L W P pb KL) (hba : Below wb.heap.size wb wc) (hra : wc.ownsRow wb.heap.size 3 1 va n1 xs) (hbb : Below wc.heap.size wc wd) (hrb : wd.ownsRow wc.heap.size 3 1 vb n2 ys) :
    PlayS base wd (va.ownBlock.toList ++ (vb.ownBlock.toList ++ S)) p l sq m k pr L W P pb KL ∧ (∀ g, va.ownBlock = some g → base ≤ g ∧ g ∉ vb.ownBlock.toList ++ S) ∧ (∀ g, vb.ownBlock = some g → base ≤ g ∧ g ∉ S) ∧ wd.ownsRow 0 3 1 va n1 xs ∧ wd.ownsRow 0 3 1 vb n2 ys ∧ PLeft base S wb wd := by
  obtain ⟨h1, h2⟩ := h.aside hba hra
  obtain ⟨h3, h4⟩ := h1.aside hbb hrb
  have hl1 := (h.below hba).2
  have hl2 := (h1.below hbb).2
  refine ⟨h3.less (fun x hx => by simp only [List.mem_append] at hx ⊢; rcases hx with h | h | h; exact .inr (.inl h); exact .inl h; exact .inr (.inr h)), fun g hg => ⟨(h2 g hg).1, fun hin => ?_⟩, fun g hg => ⟨(h4 g hg).1, fun hin => (h4 g hg).2 (List.mem_append.2 (.inr hin))⟩, row_low (row_there hra hbb) (Nat.zero_le _), row_low hrb (Nat.zero_le _), hl1.trans ⟨hl2.below, hl2.size, fun x hx => hl2.keep x (List.mem_append.2 (.inr hx))⟩⟩
  rcases List.mem_append.1 hin with hin | hin
  · have hv : vb.ownBlock = some g := by
      rcases ho : vb.ownBlock with _ | g'
      · rw [ho] at hin; simp at hin
      · rw [ho] at hin; simp at hin; rw [hin]
    have := (hrb.lt g hv).1
    have := (hra.lt g hg).2
    omega
  · exact (h2 g hg).2 hin
theorem Play.same1 {F : List Nat} {vL vW vP hv hc : Value} (h : Play base wb S p F l sq m k pr vL vW vP L W P pb hv hc KL) {va : Value} {xs : List Int} (ra : wb.ownsRow 0 3 1 va xs.length (cellsI xs)) (hx : xs = L) (hxl : xs.length ≤ 1000000) (hb : Below wb.heap.size wb wc) :
    Calls Tryz.prog 25 #[va, vL] wc fun e w' => e = .returned (.bool true) ∧ Below wc.heap.size wc w' := by
  subst hx
  exact sameInts_any va vL xs wc ((RdI.row ra).below hb).reads (h.r.l.below hb).reads hxl
theorem Play.same2 {base' : Nat} {vb v' : Value} {ys mm : List Int} (rb : wb.ownsRow 0 3 1 vb ys.length (cellsI ys)) (rm : wd.ownsRow base' 3 1 v' mm.length (cellsI mm)) (he : mm = ys) (hyl : ys.length ≤ 1000000) (hb : Below wb.heap.size wb wd) :
    Calls Tryz.prog 25 #[vb, v'] wd fun e w' => e = .returned (.bool true) ∧ Below wd.heap.size wd w' := by
  subst he
  exact sameInts_any vb v' mm wd ((RdI.row rb).below hb).reads (RdI.row rm).reads hyl
theorem Play.rall {F : List Nat} {vL vW vP hv hc : Value} (h : Play base wb S p F l sq m k pr vL vW vP L W P pb hv hc KL) (hb : Below wb.heap.size wb wc) (hl : W.length + L.length ≤ 100000) (hs : L.Pairwise (· ≤ ·)) :
    Calls Tryz.prog 26 #[.pointer (some ⟨pr, 0, none⟩)] wc fun e w' => ∃ v' m, e = .returned v' ∧ w'.ownsRow wc.heap.size 3 1 v' m.length (cellsI m) ∧ m.Perm (W.map (·.2) ++ L) ∧ m.Pairwise (· ≤ ·) ∧ Below wc.heap.size wc w' :=
  rfAll_any (h.r.below hb) hl hs
theorem play_len (h : PlayS base wb S p l sq m k pr L W P pb KL) (hb : Below wb.heap.size wb wc) :
    Calls Tryz.prog 27 #[.pointer (some ⟨p, 0, none⟩)] wc fun e w' => e = .returned (.int .i64 (l.length : Nat)) ∧ w' = wc := fre_len (h.below hb).1.fre
theorem play_waiting (h : PlayS base wb S p l sq m k pr L W P pb KL) (hb : Below wb.heap.size wb wc) :
    Calls Tryz.prog 28 #[.pointer (some ⟨p, 0, none⟩)] wc fun e w' => e = .returned (.int .i64 (m.length : Nat)) ∧ w' = wc := fre_waiting (h.below hb).1.fre
theorem play_stays {g n c : Nat} {v : Value} {xs : List Int} {w1 : World} (h : LentAt w1 g n c (xs.map (.int .i64))) (hl : PLeft base S w1 wb) (hg : g ∈ S) (hr : Reads1 w1 base v (xs.map (.int .i64))) (hs : base ≤ wb.heap.size) (hb : Below wb.heap.size wb wc) (hx : xs.length ≤ 1000000) :
    Calls Tryz.prog 9 #[.slice (some ⟨g, 0, none⟩) n c, v] wc fun e w' => e = .returned (.bool true) ∧ Below wc.heap.size wc w' := by
  have h1 := h.keep (hl.keep g hg) hl.size
  have h2 := h1.keep (hb.block g h1.lt) hb.size
  have hbb := hl.below.trans (hb.mono hs)
  exact staysInts_any 0 _ v xs wc h2.lent ((hr.below hbb).mono (Nat.le_trans hs hb.size)) hx
end

section
variable {P : Program} {ops : Array Oper} {Q : Exit → Act → World → Prop} {md : Region.Mode} {S : World → Prop} {last : Nat}
/-- The one operation that may come up, under a guard that lets it. -/
theorem till_oneG {i : Nat} {o : Oper} {n : Nat} {seen : Array Bool} {a : Act} {w : World} (hr : Region.ready md ops seen = [i]) (hi : ops[i]? = some o) (hg : Region.wanted o (yielded ops a.tmps) = true)
    (h : ∀ K : Act → World → Prop, (∀ a' w', ((i < last → S w') ∧ Till P md ops Q S last n (seen.setIfInBounds i true) a' w') → K a' w') → o.wp P a w K Q) : Till P md ops Q S last (n + 1) seen a w := by
  refine ⟨(fun h0 => by rw [hr] at h0; cases h0), fun j hj => ?_⟩
  rw [hr] at hj
  obtain rfl : j = i := by simpa using hj
  unfold wpOp
  simp only [hi]
  rw [if_pos hg]
  exact .inl (h _ fun _ _ hh => hh)
end
end Go.Proofs.YtjimjemogbphaaaGreat
