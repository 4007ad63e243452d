/-
  The statements' book: are all lists what they were, and apart? The statements' book: Apart. The statements' book: one that is new; one more list is kept.
-/
import Derived.Test.YtlalhinodmmgfaaGreatMg23
import Derived.Test.YtlalhinodmmgfaaGreatMg24
import Derived.Test.YtlalhinodmmgfaaGreatMg27
namespace Go.Proofs.YtlalhinodmmgfaaGreat
open Go.RowKit

def bookCells (hv hc dv dc : Value) : Array Value := #[nilV, nilV, hv, hc, nilV, nilV, nilV, nilV, nilV, nilV, nilV, nilV, nilV, nilV, dv, dc, nilV, nilV, nilV, nilV, nilV, nilV]

/-- A book that keeps lists of numbers and lists of what is due. -/
structure BookAt (w : World) (p : Nat) (hv hc : Value) (L : List KeptI) (dv dc : Value) (M : List BD.KeptI) : Prop where
  has : Has w p 39 (bookCells hv hc dv dc)
  ints : Rows w (shelfI hv hc L)
  dues : Rows w (BD.shelfI dv dc M)
  pI : p ∉ foot (shelfI hv hc L)
  pD : p ∉ foot (BD.shelfI dv dc M)
  apart : ∀ g ∈ foot (shelfI hv hc L), g ∉ foot (BD.shelfI dv dc M)
def bookFoot (p : Nat) (hv hc : Value) (L : List KeptI) (dv dc : Value) (M : List BD.KeptI) : List Nat := p :: (foot (shelfI hv hc L) ++ foot (BD.shelfI dv dc M))

theorem BookAt.below {w w' : World} {p : Nat} {hv hc : Value} {L : List KeptI} {dv dc : Value} {M : List BD.KeptI} (h : BookAt w p hv hc L dv dc M) (hb : Below w.heap.size w w') : BookAt w' p hv hc L dv dc M :=
  ⟨h.has.below hb h.has.inside, h.ints.below hb, h.dues.below hb, h.pI, h.pD, h.apart⟩

/-- The same without copies: lists side by side. -/
structure TwoAt (F : List Nat) (w0 w : World) (p : Nat) (hv hc : Value) (n : Nat) (vs : Nat → Value) (c : Nat → List Int) (dv dc : Value) (m : Nat) (us : Nat → Value) (d : Nat → List Due) : Prop where
  has : Has w p 39 (bookCells hv hc dv dc)
  i : VSt w hv n vs c
  d : BD.VSt w dv m us d
  sep : ∀ g ∈ vfoot hv n vs, g ∉ vfoot dv m us
  pi : p ∉ vfoot hv n vs
  pd : p ∉ vfoot dv m us
  sub : ∀ g, g ∈ vfoot hv n vs ∨ g ∈ vfoot dv m us → g ∈ F
  kept : Kept F w0 w

section
variable {F : List Nat} {w0 w w' : World} {p : Nat} {hv hc dv dc : Value} {n m : Nat} {vs us : Nat → Value} {c : Nat → List Int} {d : Nat → List Due}
theorem vblocks_sub {g : Nat} (h : g ∈ vblocks n vs) : g ∈ vfoot hv n vs := List.mem_append.2 (.inr h)

theorem BookAt.two {L : List KeptI} {M : List BD.KeptI} (h : BookAt w p hv hc L dv dc M) (hF : ∀ g ∈ foot (shelfI hv hc L) ++ foot (BD.shelfI dv dc M), g ∈ F) (hk : Kept F w0 w) : TwoAt F w0 w p hv hc L.length (vsI L) (csI L) dv dc M.length (BD.vsI M) (BD.csI M) :=
  ⟨h.has, VSt.of h.ints, BD.VSt.of h.dues, fun g h1 h2 => h.apart g (vfoot_sub hv hc L g h1) (BD.vfoot_sub dv dc M g h2), fun h1 => h.pI (vfoot_sub hv hc L p h1), fun h2 => h.pD (BD.vfoot_sub dv dc M p h2),
    fun g hg => hF g (List.mem_append.2 (hg.imp (vfoot_sub hv hc L g) (BD.vfoot_sub dv dc M g))), hk⟩

theorem TwoAt.below (h : TwoAt F w0 w p hv hc n vs c dv dc m us d) (hb : Below w.heap.size w w') : TwoAt F w0 w' p hv hc n vs c dv dc m us d :=
  ⟨h.has.below hb h.has.inside, h.i.below hb, h.d.below hb, h.sep, h.pi, h.pd, h.sub, h.kept.trans (Kept.of_below hb)⟩

theorem dues_kept {G : List Nat} (h : BD.VSt w dv m us d) (hk : Kept G w w') (hG : ∀ g ∈ G, g ∉ vfoot dv m us) : BD.VSt w' dv m us d :=
  h.kept hk (fun g hg => ⟨fun e => hG g hg (mem_vfoot.2 (.inl e)), fun j hj e => hG g hg (mem_vfoot.2 (.inr ⟨j, hj, e⟩))⟩)
theorem ints_kept {G : List Nat} (h : VSt w hv n vs c) (hk : Kept G w w') (hG : ∀ g ∈ G, g ∉ vfoot hv n vs) : VSt w' hv n vs c :=
  h.kept hk (fun g hg => ⟨fun e => hG g hg (mem_vfoot.2 (.inl e)), fun j hj e => hG g hg (mem_vfoot.2 (.inr ⟨j, hj, e⟩))⟩)

theorem TwoAt.putI (h : TwoAt F w0 w p hv hc n vs c dv dc m us d) (hE : PutEndI w hv n vs c w') : TwoAt F w0 w' p hv hc n vs (fun j => marksI j 0 (c j).length) dv dc m us d :=
  ⟨h.has.kept hE.2 (fun hp => h.pi (vblocks_sub hp)), hE.1, dues_kept h.d hE.2 (fun g hg => h.sep g (vblocks_sub hg)), h.sep, h.pi, h.pd, h.sub, h.kept.then_ hE.2 (fun g hg => .inl (h.sub g (.inl (vblocks_sub hg))))⟩
theorem TwoAt.putD (h : TwoAt F w0 w p hv hc n vs c dv dc m us d) (hE : BD.PutEndI w dv m us d w') : TwoAt F w0 w' p hv hc n vs c dv dc m us (fun j => BD.marksD j 0 (d j).length) :=
  ⟨h.has.kept hE.2 (fun hp => h.pd (vblocks_sub hp)), ints_kept h.i hE.2 (fun g hg hg' => h.sep g hg' (vblocks_sub hg)), hE.1, h.sep, h.pi, h.pd, h.sub, h.kept.then_ hE.2 (fun g hg => .inl (h.sub g (.inr (vblocks_sub hg))))⟩

/-- The numbers are grown, what is due is not. -/
structure OneAt (F : List Nat) (w0 w : World) (p : Nat) (hv hc ov : Value) (dv dc : Value) (m : Nat) (us : Nat → Value) (d : Nat → List Due) : Prop where
  has : Has w p 39 (bookCells hv hc dv dc)
  i : RdsI w (vfoot dv m us) hv ov
  d : BD.VSt w dv m us d
  pd : p ∉ vfoot dv m us
  sub : ∀ g ∈ vfoot dv m us, g ∈ F
  kept : Kept F w0 w
theorem OneAt.below {ov : Value} (h : OneAt F w0 w p hv hc ov dv dc m us d) (hb : Below w.heap.size w w') : OneAt F w0 w' p hv hc ov dv dc m us d :=
  ⟨h.has.below hb h.has.inside, h.i.below hb, h.d.below hb, h.pd, h.sub, h.kept.trans (Kept.of_below hb)⟩

theorem TwoAt.grow {ln : Nat → Nat} {ov : Value} (hn : n ≤ 250) (hx : ∀ j, j < n → ln j ≤ 900000) (h : TwoAt F w0 w p hv hc n vs (fun j => marksI j 0 (ln j)) dv dc m us d) (hE : GrowEndI w hv n vs ln ov w') : OneAt F w0 w' p hv hc ov dv dc m us d := by
  have hk : Kept (vblocks n vs) w w' := by obtain ⟨cur, hG⟩ := hE; exact hG.st.kept
  have h0 : ∀ j, j < n → w.ownsRow 0 3 1 (vs j) (ln j) (cellsI (marksI j 0 (ln j))) := fun j hj => by
    have := h.i.row j hj
    rwa [length_marksI] at this
  have hlt : ∀ g ∈ vfoot dv m us, g < w.heap.size := fun g hg => by
    rcases mem_vfoot.1 hg with e | ⟨j, hj, e⟩
    · exact h.d.ltH g e
    · exact h.d.lt j hj g e
  exact ⟨h.has.kept hk (fun hp => h.pi (vblocks_sub hp)), RdsI.of hn hx h0 hE (fun g hg => ⟨hlt g hg, fun h1 => h.sep g h1 hg⟩), dues_kept h.d hk (fun g hg => h.sep g (vblocks_sub hg)), h.pd, fun g hg => h.sub g (.inr hg), h.kept.then_ hk (fun g hg => .inl (h.sub g (.inl (vblocks_sub hg))))⟩

/-- All are grown. -/
structure NoneAt (F : List Nat) (w0 w : World) (p : Nat) (hv hc ov : Value) (dv dc ou : Value) : Prop where
  has : Has w p 39 (bookCells hv hc dv dc)
  i : RdsI w [] hv ov
  d : BD.RdsI w [] dv ou
  kept : Kept F w0 w
theorem NoneAt.below {ov ou : Value} (h : NoneAt F w0 w p hv hc ov dv dc ou) (hb : Below w.heap.size w w') : NoneAt F w0 w' p hv hc ov dv dc ou :=
  ⟨h.has.below hb h.has.inside, h.i.below hb, h.d.below hb, h.kept.trans (Kept.of_below hb)⟩
theorem OneAt.grow {ln : Nat → Nat} {ov ou : Value} (hn : m ≤ 250) (hx : ∀ j, j < m → ln j ≤ 900000) (h : OneAt F w0 w p hv hc ov dv dc m us (fun j => BD.marksD j 0 (ln j))) (hE : BD.GrowEndI w dv m us ln ou w') : NoneAt F w0 w' p hv hc ov dv dc ou := by
  have hk : Kept (vblocks m us) w w' := by obtain ⟨cur, hG⟩ := hE; exact hG.st.kept
  have h0 : ∀ j, j < m → w.ownsRow 0 111 3 (us j) (ln j) (BD.cellsD (BD.marksD j 0 (ln j))) := fun j hj => by
    have := h.d.row j hj
    rwa [BD.length_marksD] at this
  exact ⟨h.has.kept hk (fun hp => h.pd (vblocks_sub hp)), (h.i.kept (hk.mono (fun g hg => .inl (vblocks_sub hg)))).none_, BD.RdsI.of hn hx h0 hE (fun g hg => by simp at hg), h.kept.then_ hk (fun g hg => .inl (h.sub g (vblocks_sub hg)))⟩
end
end Go.Proofs.YtlalhinodmmgfaaGreat

namespace Go.Proofs.YtlalhinodmmgfaaGreat
open Go.RowKit

theorem ints_len {L : List KeptI} (hx : ∀ x ∈ L, x.xs.length ≤ 900000) : ∀ j, j < L.length → (csI L j).length ≤ 900000 := fun j hj => by
  rw [csI_at hj]
  exact hx _ (List.getElem_mem hj)
theorem dues_len {M : List BD.KeptI} (hx : ∀ x ∈ M, x.xs.length ≤ 900000) : ∀ j, j < M.length → (BD.csI M j).length ≤ 900000 := fun j hj => by
  rw [BD.csI_at hj]
  exact hx _ (List.getElem_mem hj)

set_option maxRecDepth 1000000 in
set_option maxHeartbeats 4000000 in
theorem apart_any {w : World} {p : Nat} {hv hc : Value} {L : List KeptI} {dv dc : Value} {M : List BD.KeptI} (hB : BookAt w p hv hc L dv dc M) (hL : L.length ≤ 250) (hM : M.length ≤ 250) (hx : ∀ x ∈ L, x.xs.length ≤ 900000) (hy : ∀ x ∈ M, x.xs.length ≤ 900000) :
    Calls Tryz.prog 18 #[.pointer (some ⟨p, 0, none⟩)] w fun e w' => e = .returned (.bool true) ∧ Kept (bookFoot p hv hc L dv dc M) w w' := by
  have HB := Lib.hid (And.intro hB (Kept.refl (bookFoot p hv hc L dv dc M) w))
  have HL := Lib.hid (And.intro hL (And.intro hM (And.intro hx hy)))
  clear hB hL hM hx hy
  go_enter Tryz.func18, Tryz.ntmps18
  have hc0 := stillTexts_none HB.out.1.has (by rfl)
  go_wp2_with fail
  refine hc0.mono ?_
  rintro e w0 ⟨rfl, hb⟩
  replace HB := Lib.hid (And.intro (HB.out.1.below hb) (HB.out.2.trans (Kept.of_below hb)))
  clear hc0 hb
  have hc1 := stillInts_any HB.out.1.has (by rfl) (by rfl) HB.out.1.ints HL.out.1 (fun x hx => by have := HL.out.2.2.1 x hx; omega)
  go_wp2_with fail
  refine hc1.mono ?_
  rintro e w1 ⟨rfl, hb⟩
  replace HB := Lib.hid (And.intro (HB.out.1.below hb) (HB.out.2.trans (Kept.of_below hb)))
  clear hc1 hb
  have hc2 := stillItems_none HB.out.1.has (by rfl)
  go_wp2_with fail
  refine hc2.mono ?_
  rintro e w2 ⟨rfl, hb⟩
  replace HB := Lib.hid (And.intro (HB.out.1.below hb) (HB.out.2.trans (Kept.of_below hb)))
  clear hc2 hb
  have hc3 := stillChildren_none HB.out.1.has (by rfl)
  go_wp2_with fail
  refine hc3.mono ?_
  rintro e w3 ⟨rfl, hb⟩
  replace HB := Lib.hid (And.intro (HB.out.1.below hb) (HB.out.2.trans (Kept.of_below hb)))
  clear hc3 hb
  have hc4 := stillPairs_none HB.out.1.has (by rfl)
  go_wp2_with fail
  refine hc4.mono ?_
  rintro e w4 ⟨rfl, hb⟩
  replace HB := Lib.hid (And.intro (HB.out.1.below hb) (HB.out.2.trans (Kept.of_below hb)))
  clear hc4 hb
  have hc5 := stillEntries_none HB.out.1.has (by rfl)
  go_wp2_with fail
  refine hc5.mono ?_
  rintro e w5 ⟨rfl, hb⟩
  replace HB := Lib.hid (And.intro (HB.out.1.below hb) (HB.out.2.trans (Kept.of_below hb)))
  clear hc5 hb
  have hc6 := stillMsgs_none HB.out.1.has (by rfl)
  go_wp2_with fail
  refine hc6.mono ?_
  rintro e w6 ⟨rfl, hb⟩
  replace HB := Lib.hid (And.intro (HB.out.1.below hb) (HB.out.2.trans (Kept.of_below hb)))
  clear hc6 hb
  have hc7 := BD.stillDues_any HB.out.1.has (by rfl) (by rfl) HB.out.1.dues HL.out.2.1 (fun x hx => by have := HL.out.2.2.2 x hx; omega)
  go_wp2_with fail
  refine hc7.mono ?_
  rintro e w7 ⟨rfl, hb⟩
  replace HB := Lib.hid (And.intro (HB.out.1.below hb) (HB.out.2.trans (Kept.of_below hb)))
  clear hc7 hb
  have hc8 := stillPackets_none HB.out.1.has (by rfl)
  go_wp2_with fail
  refine hc8.mono ?_
  rintro e w8 ⟨rfl, hb⟩
  replace HB := Lib.hid (And.intro (HB.out.1.below hb) (HB.out.2.trans (Kept.of_below hb)))
  clear hc8 hb
  have hc9 := stillEvents_none HB.out.1.has (by rfl)
  go_wp2_with fail
  refine hc9.mono ?_
  rintro e w9 ⟨rfl, hb⟩
  replace HB := Lib.hid (And.intro (HB.out.1.below hb) (HB.out.2.trans (Kept.of_below hb)))
  clear hc9 hb
  have hc10 := stillSteps_none HB.out.1.has (by rfl)
  go_wp2_with fail
  refine hc10.mono ?_
  rintro e w10 ⟨rfl, hb⟩
  replace HB := Lib.hid (And.intro (HB.out.1.below hb) (HB.out.2.trans (Kept.of_below hb)))
  clear hc10 hb
  have hT := HB.out.1.two (F := bookFoot p hv hc L dv dc M) (fun g hg => List.mem_cons_of_mem _ hg) HB.out.2
  have HX := Lib.hid (And.intro HL.out.1 (And.intro HL.out.2.1 (And.intro (ints_len HL.out.2.2.1) (dues_len HL.out.2.2.2))))
  generalize L.length = n at *
  generalize M.length = m at *
  generalize vsI L = vs at *
  generalize csI L = c at *
  generalize BD.vsI M = us at *
  generalize BD.csI M = d at *
  have HT := Lib.hid hT
  clear hT HB HL
  have hc0 := putMsgs_none HT.out.has (by rfl)
  go_wp2_with fail
  refine hc0.mono ?_
  rintro e v0 ⟨rfl, hb⟩
  replace HT := Lib.hid (HT.out.below hb)
  clear hc0 hb
  have hc1 := putSteps_none HT.out.has (by rfl)
  go_wp2_with fail
  refine hc1.mono ?_
  rintro e v1 ⟨rfl, hb⟩
  replace HT := Lib.hid (HT.out.below hb)
  clear hc1 hb
  have hc2 := putTexts_none HT.out.has (by rfl)
  go_wp2_with fail
  refine hc2.mono ?_
  rintro e v2 ⟨rfl, hb⟩
  replace HT := Lib.hid (HT.out.below hb)
  clear hc2 hb
  have hc3 := putInts_any HT.out.has (by rfl) HT.out.i (fun j hj e => HT.out.pi (mem_vfoot.2 (.inr ⟨j, hj, e⟩))) HX.out.1 (fun j hj => by have := HX.out.2.2.1 j hj; omega)
  go_wp2_with fail
  refine hc3.mono ?_
  rintro e v3 ⟨rfl, hb⟩
  replace HT := Lib.hid (HT.out.putI hb)
  clear hc3 hb
  have hc4 := putItems_none HT.out.has (by rfl)
  go_wp2_with fail
  refine hc4.mono ?_
  rintro e v4 ⟨rfl, hb⟩
  replace HT := Lib.hid (HT.out.below hb)
  clear hc4 hb
  have hc5 := putChildren_none HT.out.has (by rfl)
  go_wp2_with fail
  refine hc5.mono ?_
  rintro e v5 ⟨rfl, hb⟩
  replace HT := Lib.hid (HT.out.below hb)
  clear hc5 hb
  have hc6 := putPairs_none HT.out.has (by rfl)
  go_wp2_with fail
  refine hc6.mono ?_
  rintro e v6 ⟨rfl, hb⟩
  replace HT := Lib.hid (HT.out.below hb)
  clear hc6 hb
  have hc7 := putEntries_none HT.out.has (by rfl)
  go_wp2_with fail
  refine hc7.mono ?_
  rintro e v7 ⟨rfl, hb⟩
  replace HT := Lib.hid (HT.out.below hb)
  clear hc7 hb
  have hc8 := BD.putDues_any HT.out.has (by rfl) HT.out.d (fun j hj e => HT.out.pd (mem_vfoot.2 (.inr ⟨j, hj, e⟩))) HX.out.2.1 (fun j hj => by have := HX.out.2.2.2 j hj; omega)
  go_wp2_with fail
  refine hc8.mono ?_
  rintro e v8 ⟨rfl, hb⟩
  replace HT := Lib.hid (HT.out.putD hb)
  clear hc8 hb
  have hc9 := putPackets_none HT.out.has (by rfl)
  go_wp2_with fail
  refine hc9.mono ?_
  rintro e v9 ⟨rfl, hb⟩
  replace HT := Lib.hid (HT.out.below hb)
  clear hc9 hb
  have hc10 := putEvents_none HT.out.has (by rfl)
  go_wp2_with fail
  refine hc10.mono ?_
  rintro e v10 ⟨rfl, hb⟩
  replace HT := Lib.hid (HT.out.below hb)
  clear hc10 hb
  have hc0 := growTexts_none HT.out.has (by rfl)
  go_wp2_with fail
  refine hc0.mono ?_
  rintro e x0 ⟨rfl, hb⟩
  replace HT := Lib.hid (HT.out.below hb)
  clear hc0 hb
  have hGS := GSt.of HT.out.i (ln := fun j => (c j).length) (fun _ _ => rfl)
  have hc1 := growInts_any HT.out.has (by rfl) hGS.1 hGS.2 (fun j hj e => HT.out.pi (mem_vfoot.2 (.inr ⟨j, hj, e⟩))) HX.out.1 (fun j hj => by have := HX.out.2.2.1 j hj; show (c j).length ≤ _; omega)
  clear hGS
  go_wp2_with fail
  refine hc1.mono ?_
  rintro e x1 ⟨ov, rfl, hb⟩
  have HT1 := Lib.hid (TwoAt.grow HX.out.1 HX.out.2.2.1 HT.out hb)
  clear hc1 hb HT
  have hc2 := growItems_none HT1.out.has (by rfl)
  go_wp2_with fail
  refine hc2.mono ?_
  rintro e x2 ⟨rfl, hb⟩
  replace HT1 := Lib.hid (HT1.out.below hb)
  clear hc2 hb
  have hc3 := growChildren_none HT1.out.has (by rfl)
  go_wp2_with fail
  refine hc3.mono ?_
  rintro e x3 ⟨rfl, hb⟩
  replace HT1 := Lib.hid (HT1.out.below hb)
  clear hc3 hb
  have hc4 := growPairs_none HT1.out.has (by rfl)
  go_wp2_with fail
  refine hc4.mono ?_
  rintro e x4 ⟨rfl, hb⟩
  replace HT1 := Lib.hid (HT1.out.below hb)
  clear hc4 hb
  have hc5 := growEntries_none HT1.out.has (by rfl)
  go_wp2_with fail
  refine hc5.mono ?_
  rintro e x5 ⟨rfl, hb⟩
  replace HT1 := Lib.hid (HT1.out.below hb)
  clear hc5 hb
  have hc6 := growMsgs_none HT1.out.has (by rfl)
  go_wp2_with fail
  refine hc6.mono ?_
  rintro e x6 ⟨rfl, hb⟩
  replace HT1 := Lib.hid (HT1.out.below hb)
  clear hc6 hb
  have hGS := BD.GSt.of HT1.out.d (ln := fun j => (d j).length) (fun _ _ => rfl)
  have hc7 := BD.growDues_any HT1.out.has (by rfl) hGS.1 hGS.2 (fun j hj e => HT1.out.pd (mem_vfoot.2 (.inr ⟨j, hj, e⟩))) HX.out.2.1 (fun j hj => by have := HX.out.2.2.2 j hj; show (d j).length ≤ _; omega)
  clear hGS
  go_wp2_with fail
  refine hc7.mono ?_
  rintro e x7 ⟨ou, rfl, hb⟩
  have HT2 := Lib.hid (OneAt.grow HX.out.2.1 HX.out.2.2.2 HT1.out hb)
  clear hc7 hb HT1
  have hc8 := growPackets_none HT2.out.has (by rfl)
  go_wp2_with fail
  refine hc8.mono ?_
  rintro e x8 ⟨rfl, hb⟩
  replace HT2 := Lib.hid (HT2.out.below hb)
  clear hc8 hb
  have hc9 := growEvents_none HT2.out.has (by rfl)
  go_wp2_with fail
  refine hc9.mono ?_
  rintro e x9 ⟨rfl, hb⟩
  replace HT2 := Lib.hid (HT2.out.below hb)
  clear hc9 hb
  have hc10 := growSteps_none HT2.out.has (by rfl)
  go_wp2_with fail
  refine hc10.mono ?_
  rintro e x10 ⟨rfl, hb⟩
  replace HT2 := Lib.hid (HT2.out.below hb)
  clear hc10 hb
  have hcc := @markedTexts_none x10
  go_wp2_with fail
  refine hcc.mono ?_
  rintro e y0 ⟨rfl, hb⟩
  replace HT2 := Lib.hid (HT2.out.below hb)
  clear hcc hb
  have hcc := @markedTexts_none y0
  have hq : y0.cell? ⟨p, 0, none⟩ = some (.slice none 0 0) := HT2.out.has.cell 0
  go_wp2_with fail
  refine hcc.mono ?_
  rintro e y1 ⟨rfl, hb⟩
  replace HT2 := Lib.hid (HT2.out.below hb)
  clear hcc hb hq
  have hcc := HT2.out.i.second
  go_wp2_with fail
  refine hcc.mono ?_
  rintro e y2 ⟨rfl, hb⟩
  replace HT2 := Lib.hid (HT2.out.below hb)
  clear hcc hb
  have hcc := HT2.out.i.first
  have hq : y2.cell? ⟨p, 2, none⟩ = some hv := HT2.out.has.cell 2
  go_wp2_with fail
  refine hcc.mono ?_
  rintro e y3 ⟨rfl, hb⟩
  replace HT2 := Lib.hid (HT2.out.below hb)
  clear hcc hb hq
  have hcc := @markedItems_none y3
  go_wp2_with fail
  refine hcc.mono ?_
  rintro e y4 ⟨rfl, hb⟩
  replace HT2 := Lib.hid (HT2.out.below hb)
  clear hcc hb
  have hcc := @markedItems_none y4
  have hq : y4.cell? ⟨p, 4, none⟩ = some (.slice none 0 0) := HT2.out.has.cell 4
  go_wp2_with fail
  refine hcc.mono ?_
  rintro e y5 ⟨rfl, hb⟩
  replace HT2 := Lib.hid (HT2.out.below hb)
  clear hcc hb hq
  have hcc := @markedChildren_none y5
  go_wp2_with fail
  refine hcc.mono ?_
  rintro e y6 ⟨rfl, hb⟩
  replace HT2 := Lib.hid (HT2.out.below hb)
  clear hcc hb
  have hcc := @markedChildren_none y6
  have hq : y6.cell? ⟨p, 6, none⟩ = some (.slice none 0 0) := HT2.out.has.cell 6
  go_wp2_with fail
  refine hcc.mono ?_
  rintro e y7 ⟨rfl, hb⟩
  replace HT2 := Lib.hid (HT2.out.below hb)
  clear hcc hb hq
  have hcc := @markedPairs_none y7
  go_wp2_with fail
  refine hcc.mono ?_
  rintro e y8 ⟨rfl, hb⟩
  replace HT2 := Lib.hid (HT2.out.below hb)
  clear hcc hb
  have hcc := @markedPairs_none y8
  have hq : y8.cell? ⟨p, 8, none⟩ = some (.slice none 0 0) := HT2.out.has.cell 8
  go_wp2_with fail
  refine hcc.mono ?_
  rintro e y9 ⟨rfl, hb⟩
  replace HT2 := Lib.hid (HT2.out.below hb)
  clear hcc hb hq
  have hcc := @markedEntries_none y9
  go_wp2_with fail
  refine hcc.mono ?_
  rintro e y10 ⟨rfl, hb⟩
  replace HT2 := Lib.hid (HT2.out.below hb)
  clear hcc hb
  have hcc := @markedEntries_none y10
  have hq : y10.cell? ⟨p, 10, none⟩ = some (.slice none 0 0) := HT2.out.has.cell 10
  go_wp2_with fail
  refine hcc.mono ?_
  rintro e y11 ⟨rfl, hb⟩
  replace HT2 := Lib.hid (HT2.out.below hb)
  clear hcc hb hq
  have hcc := @markedMsgs_none y11
  go_wp2_with fail
  refine hcc.mono ?_
  rintro e y12 ⟨rfl, hb⟩
  replace HT2 := Lib.hid (HT2.out.below hb)
  clear hcc hb
  have hcc := @markedMsgs_none y12
  have hq : y12.cell? ⟨p, 12, none⟩ = some (.slice none 0 0) := HT2.out.has.cell 12
  go_wp2_with fail
  refine hcc.mono ?_
  rintro e y13 ⟨rfl, hb⟩
  replace HT2 := Lib.hid (HT2.out.below hb)
  clear hcc hb hq
  have hcc := HT2.out.d.second
  go_wp2_with fail
  refine hcc.mono ?_
  rintro e y14 ⟨rfl, hb⟩
  replace HT2 := Lib.hid (HT2.out.below hb)
  clear hcc hb
  have hcc := HT2.out.d.first
  have hq : y14.cell? ⟨p, 14, none⟩ = some dv := HT2.out.has.cell 14
  go_wp2_with fail
  refine hcc.mono ?_
  rintro e y15 ⟨rfl, hb⟩
  replace HT2 := Lib.hid (HT2.out.below hb)
  clear hcc hb hq
  have hcc := @markedPackets_none y15
  go_wp2_with fail
  refine hcc.mono ?_
  rintro e y16 ⟨rfl, hb⟩
  replace HT2 := Lib.hid (HT2.out.below hb)
  clear hcc hb
  have hcc := @markedPackets_none y16
  have hq : y16.cell? ⟨p, 16, none⟩ = some (.slice none 0 0) := HT2.out.has.cell 16
  go_wp2_with fail
  refine hcc.mono ?_
  rintro e y17 ⟨rfl, hb⟩
  replace HT2 := Lib.hid (HT2.out.below hb)
  clear hcc hb hq
  have hcc := @markedEvents_none y17
  go_wp2_with fail
  refine hcc.mono ?_
  rintro e y18 ⟨rfl, hb⟩
  replace HT2 := Lib.hid (HT2.out.below hb)
  clear hcc hb
  have hcc := @markedEvents_none y18
  have hq : y18.cell? ⟨p, 18, none⟩ = some (.slice none 0 0) := HT2.out.has.cell 18
  go_wp2_with fail
  refine hcc.mono ?_
  rintro e y19 ⟨rfl, hb⟩
  replace HT2 := Lib.hid (HT2.out.below hb)
  clear hcc hb hq
  have hcc := @markedSteps_none y19
  go_wp2_with fail
  refine hcc.mono ?_
  rintro e y20 ⟨rfl, hb⟩
  replace HT2 := Lib.hid (HT2.out.below hb)
  clear hcc hb
  have hcc := @markedSteps_none y20
  have hq : y20.cell? ⟨p, 20, none⟩ = some (.slice none 0 0) := HT2.out.has.cell 20
  go_wp2_with fail
  refine hcc.mono ?_
  rintro e y21 ⟨rfl, hb⟩
  replace HT2 := Lib.hid (HT2.out.below hb)
  clear hcc hb hq
  go_wp2_with fail
  go_ret
  exact ⟨rfl, HT2.out.kept⟩
end Go.Proofs.YtlalhinodmmgfaaGreat

namespace Go.Proofs.YtlalhinodmmgfaaGreat
open Go.RowKit

/-- A book that is new. -/
theorem BookAt.new (w : World) : BookAt (w.alloc (.cells (bookCells nilV nilV nilV nilV) 39)) w.heap.size nilV nilV [] nilV nilV [] := by
  have hf : foot (shelfI nilV nilV []) = [] := rfl
  have hf2 : foot (BD.shelfI nilV nilV []) = [] := rfl
  refine ⟨Has.made w _ _, ⟨fun r hr => ?_, by rw [hf]; exact List.nodup_nil⟩, ⟨fun r hr => ?_, by rw [hf2]; exact List.nodup_nil⟩, by rw [hf]; simp, by rw [hf2]; simp, by rw [hf]; simp⟩
  · simp only [shelfI, List.map_nil, List.append_nil, List.mem_cons, List.not_mem_nil, or_false] at hr
    rcases hr with rfl | rfl <;> exact World.ownsRow_nil _ _ _ _
  · simp only [BD.shelfI, List.map_nil, List.append_nil, List.mem_cons, List.not_mem_nil, or_false] at hr
    rcases hr with rfl | rfl <;> exact World.ownsRow_nil _ _ _ _

section
variable {w w' : World} {p : Nat} {hv hc : Value} {L : List KeptI} {dv dc : Value} {M : List BD.KeptI}
/-- Other blocks turn. -/
theorem BookAt.kept {F : List Nat} (h : BookAt w p hv hc L dv dc M) (hk : Kept F w w') (hF : ∀ g ∈ bookFoot p hv hc L dv dc M, g ∉ F) : BookAt w' p hv hc L dv dc M :=
  ⟨h.has.kept hk (hF p (by simp [bookFoot])), h.ints.kept hk (fun g hg => hF g (List.mem_cons_of_mem _ (List.mem_append.2 (.inl hg)))), h.dues.kept hk (fun g hg => hF g (List.mem_cons_of_mem _ (List.mem_append.2 (.inr hg)))), h.pI, h.pD, h.apart⟩
theorem BookAt.lt (h : BookAt w p hv hc L dv dc M) : ∀ g ∈ bookFoot p hv hc L dv dc M, g < w.heap.size := fun g hg => by
  rcases List.mem_cons.1 hg with rfl | hg
  · exact h.has.inside
  · exact (List.mem_append.1 hg).elim (h.ints.lt g) (h.dues.lt g)

/-- One more list of numbers. -/
theorem BookAt.moreI {v : Value} {xs : List Int} (h : BookAt w p hv hc L dv dc M) (hv0 : ∀ g, v.ownBlock = some g → g ∉ bookFoot p hv hc L dv dc M) (hE : KeepEndI p (bookCells hv hc dv dc) hv hc L v xs w w') :
    ∃ hv' hc' c, BookAt w' p hv' hc' (L ++ [⟨v, c, xs⟩]) dv dc M ∧ Kept (bookFoot p hv hc L dv dc M) w w' ∧ ∀ g ∈ bookFoot p hv' hc' (L ++ [⟨v, c, xs⟩]) dv dc M, g ∈ bookFoot p hv hc L dv dc M ∨ v.ownBlock = some g ∨ w.heap.size ≤ g := by
  obtain ⟨hv', hc', c, h1, h2, h3, h4, h5⟩ := hE
  have hd : ∀ g ∈ foot (BD.shelfI dv dc M), g ∉ p :: foot (shelfI hv hc L) := fun g hg hg' => by
    rcases List.mem_cons.1 hg' with rfl | hg'
    · exact h.pD hg
    · exact h.apart g hg' hg
  refine ⟨hv', hc', c, ⟨h1, h2, h.dues.kept h4 hd, h3, h.pD, fun g hg hg' => ?_⟩, h4.mono (fun g hg => .inl ?_), fun g hg => ?_⟩
  · rcases h5 g hg with h6 | h6 | h6
    · exact h.apart g h6 hg'
    · exact hv0 g h6 (List.mem_cons_of_mem _ (List.mem_append.2 (.inr hg')))
    · have := h.dues.lt g hg'
      omega
  · rcases List.mem_cons.1 hg with rfl | hg
    · exact List.mem_cons_self
    · exact List.mem_cons_of_mem _ (List.mem_append.2 (.inl hg))
  · rcases List.mem_cons.1 hg with rfl | hg
    · exact .inl List.mem_cons_self
    · rcases List.mem_append.1 hg with hg | hg
      · exact (h5 g hg).imp (fun h6 => List.mem_cons_of_mem _ (List.mem_append.2 (.inl h6))) id
      · exact .inl (List.mem_cons_of_mem _ (List.mem_append.2 (.inr hg)))

/-- One more list of what is due. -/
theorem BookAt.moreD {v : Value} {xs : List Due} (h : BookAt w p hv hc L dv dc M) (hv0 : ∀ g, v.ownBlock = some g → g ∉ bookFoot p hv hc L dv dc M) (hE : BD.KeepEndI p (bookCells hv hc dv dc) dv dc M v xs w w') :
    ∃ dv' dc' c, BookAt w' p hv hc L dv' dc' (M ++ [⟨v, c, xs⟩]) ∧ Kept (bookFoot p hv hc L dv dc M) w w' ∧ ∀ g ∈ bookFoot p hv hc L dv' dc' (M ++ [⟨v, c, xs⟩]), g ∈ bookFoot p hv hc L dv dc M ∨ v.ownBlock = some g ∨ w.heap.size ≤ g := by
  obtain ⟨dv', dc', c, h1, h2, h3, h4, h5⟩ := hE
  have hd : ∀ g ∈ foot (shelfI hv hc L), g ∉ p :: foot (BD.shelfI dv dc M) := fun g hg hg' => by
    rcases List.mem_cons.1 hg' with rfl | hg'
    · exact h.pI hg
    · exact h.apart g hg hg'
  refine ⟨dv', dc', c, ⟨h1, h.ints.kept h4 hd, h2, h.pI, h3, fun g hg hg' => ?_⟩, h4.mono (fun g hg => .inl ?_), fun g hg => ?_⟩
  · rcases h5 g hg' with h6 | h6 | h6
    · exact h.apart g hg h6
    · exact hv0 g h6 (List.mem_cons_of_mem _ (List.mem_append.2 (.inl hg)))
    · have := h.ints.lt g hg
      omega
  · rcases List.mem_cons.1 hg with rfl | hg
    · exact List.mem_cons_self
    · exact List.mem_cons_of_mem _ (List.mem_append.2 (.inr hg))
  · rcases List.mem_cons.1 hg with rfl | hg
    · exact .inl List.mem_cons_self
    · rcases List.mem_append.1 hg with hg | hg
      · exact .inl (List.mem_cons_of_mem _ (List.mem_append.2 (.inl hg)))
      · exact (h5 g hg).imp (fun h6 => List.mem_cons_of_mem _ (List.mem_append.2 (.inr h6))) id
end

/-- The call that keeps a list of numbers. -/
theorem keepI_any {w : World} {p : Nat} {hv hc : Value} {L : List KeptI} {dv dc : Value} {M : List BD.KeptI} {v : Value} {xs : List Int} (h : BookAt w p hv hc L dv dc M) (hrow : w.ownsRow 0 3 1 v xs.length (cellsI xs)) (hv0 : ∀ g, v.ownBlock = some g → g ∉ bookFoot p hv hc L dv dc M) (hL : L.length < 250) (hx : xs.length ≤ 1000000) :
    Calls Tryz.prog 17 #[.pointer (some ⟨p, 0, none⟩), v] w fun e w' => e = .returned (.tuple #[]) ∧ ∃ hv' hc' c, BookAt w' p hv' hc' (L ++ [⟨v, c, xs⟩]) dv dc M ∧ Kept (bookFoot p hv hc L dv dc M) w w' ∧ ∀ g ∈ bookFoot p hv' hc' (L ++ [⟨v, c, xs⟩]) dv dc M, g ∈ bookFoot p hv hc L dv dc M ∨ v.ownBlock = some g ∨ w.heap.size ≤ g := by
  refine (bkInts_any h.has (by rfl) (by rfl) h.ints h.pI hrow (fun g hg => ⟨fun e => hv0 g hg (by rw [e]; exact List.mem_cons_self), fun e => hv0 g hg (List.mem_cons_of_mem _ (List.mem_append.2 (.inl e)))⟩) hL hx).mono ?_
  rintro e w' ⟨rfl, hE⟩
  exact ⟨rfl, h.moreI hv0 hE⟩

end Go.Proofs.YtlalhinodmmgfaaGreat
