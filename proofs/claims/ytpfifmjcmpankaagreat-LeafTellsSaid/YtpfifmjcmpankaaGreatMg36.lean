/-
  The statements' book, one that keeps lists of items alone.
-/
import Derived.Test.YtpfifmjcmpankaaGreatMg34
import Derived.Test.YtpfifmjcmpankaaGreatMg35
namespace Go.Proofs.YtpfifmjcmpankaaGreat.BI
open Go.RowKit

set_option maxRecDepth 100000 in
theorem stillInts_none {w : World} {p : Nat} {cs : Array Value} (hp : Has w p 40 cs) (h0 : cs[2]? = some (.slice none 0 0)) :
    Calls Tryz.prog 74 #[.pointer (some ⟨p, 0, none⟩)] w fun e w' => e = .returned (.bool true) ∧ Below w.heap.size w w' := by
  have hq : w.cell? ⟨p, 2, none⟩ = some (.slice none 0 0) := (hp.cell 2).trans h0
  have HB := Lib.hid (Below.refl w.heap.size w)
  clear hp h0
  go_enter Tryz.func74, Tryz.ntmps74
  go_wp2_with fail
  go_loopg [3] 0 (fun g i wr => i = .int .i64 0 ∧ wr = w)
  case atStart => exact ⟨rfl, rfl⟩
  case round =>
    obtain ⟨rfl, rfl⟩ := hrel
    go_wp2_with fail
    go_ret
    exact ⟨rfl, HB.out⟩

set_option maxRecDepth 100000 in
theorem putInts_none {w : World} {p : Nat} {cs : Array Value} (hp : Has w p 40 cs) (h0 : cs[2]? = some (.slice none 0 0)) :
    Calls Tryz.prog 87 #[.pointer (some ⟨p, 0, none⟩)] w fun e w' => e = .returned (.tuple #[]) ∧ Below w.heap.size w w' := by
  have hq : w.cell? ⟨p, 2, none⟩ = some (.slice none 0 0) := (hp.cell 2).trans h0
  have HB := Lib.hid (Below.refl w.heap.size w)
  clear hp h0
  go_enter Tryz.func87, Tryz.ntmps87
  go_wp2_with fail
  go_loopg [2] 0 (fun g i wr => i = .int .i64 0 ∧ wr = w)
  case atStart => exact ⟨rfl, rfl⟩
  case round =>
    obtain ⟨rfl, rfl⟩ := hrel
    go_wp2_with fail
    go_end0
    exact ⟨rfl, HB.out⟩

set_option maxRecDepth 100000 in
theorem growInts_none {w : World} {p : Nat} {cs : Array Value} (hp : Has w p 40 cs) (h0 : cs[2]? = some (.slice none 0 0)) :
    Calls Tryz.prog 96 #[.pointer (some ⟨p, 0, none⟩)] w fun e w' => e = .returned (.slice none 0 0) ∧ Below w.heap.size w w' := by
  have hq : w.cell? ⟨p, 2, none⟩ = some (.slice none 0 0) := (hp.cell 2).trans h0
  have HB := Lib.hid (Below.refl w.heap.size w)
  clear hp h0
  go_enter Tryz.func96, Tryz.ntmps96
  go_wp2_with fail
  go_loopg [3, 4] 0 (fun g o i wr => o = .slice none 0 0 ∧ i = .int .i64 0 ∧ wr = w)
  case atStart => exact ⟨rfl, rfl, rfl⟩
  case round =>
    obtain ⟨rfl, rfl, rfl⟩ := hrel
    go_wp2_with fail
    go_ret
    exact ⟨rfl, HB.out⟩

set_option maxRecDepth 100000 in
theorem markedInts_none {w : World} :
    Calls Tryz.prog 107 #[.slice none 0 0] w fun e w' => e = .returned (.bool true) ∧ Below w.heap.size w w' := by
  have HB := Lib.hid (Below.refl w.heap.size w)
  go_enter Tryz.func107, Tryz.ntmps107
  go_wp2_with fail
  go_loopg [3] 0 (fun g i wr => i = .int .i64 0 ∧ wr = w)
  case atStart => exact ⟨rfl, rfl⟩
  case round =>
    obtain ⟨rfl, rfl⟩ := hrel
    go_wp2_with fail
    go_ret
    exact ⟨rfl, HB.out⟩

set_option maxRecDepth 100000 in
theorem stillDues_none {w : World} {p : Nat} {cs : Array Value} (hp : Has w p 40 cs) (h0 : cs[14]? = some (.slice none 0 0)) :
    Calls Tryz.prog 80 #[.pointer (some ⟨p, 0, none⟩)] w fun e w' => e = .returned (.bool true) ∧ Below w.heap.size w w' := by
  have hq : w.cell? ⟨p, 14, none⟩ = some (.slice none 0 0) := (hp.cell 14).trans h0
  have HB := Lib.hid (Below.refl w.heap.size w)
  clear hp h0
  go_enter Tryz.func80, Tryz.ntmps80
  go_wp2_with fail
  go_loopg [3] 0 (fun g i wr => i = .int .i64 0 ∧ wr = w)
  case atStart => exact ⟨rfl, rfl⟩
  case round =>
    obtain ⟨rfl, rfl⟩ := hrel
    go_wp2_with fail
    go_ret
    exact ⟨rfl, HB.out⟩

set_option maxRecDepth 100000 in
theorem putDues_none {w : World} {p : Nat} {cs : Array Value} (hp : Has w p 40 cs) (h0 : cs[14]? = some (.slice none 0 0)) :
    Calls Tryz.prog 92 #[.pointer (some ⟨p, 0, none⟩)] w fun e w' => e = .returned (.tuple #[]) ∧ Below w.heap.size w w' := by
  have hq : w.cell? ⟨p, 14, none⟩ = some (.slice none 0 0) := (hp.cell 14).trans h0
  have HB := Lib.hid (Below.refl w.heap.size w)
  clear hp h0
  go_enter Tryz.func92, Tryz.ntmps92
  go_wp2_with fail
  go_loopg [2] 0 (fun g i wr => i = .int .i64 0 ∧ wr = w)
  case atStart => exact ⟨rfl, rfl⟩
  case round =>
    obtain ⟨rfl, rfl⟩ := hrel
    go_wp2_with fail
    go_end0
    exact ⟨rfl, HB.out⟩

set_option maxRecDepth 100000 in
theorem growDues_none {w : World} {p : Nat} {cs : Array Value} (hp : Has w p 40 cs) (h0 : cs[14]? = some (.slice none 0 0)) :
    Calls Tryz.prog 102 #[.pointer (some ⟨p, 0, none⟩)] w fun e w' => e = .returned (.slice none 0 0) ∧ Below w.heap.size w w' := by
  have hq : w.cell? ⟨p, 14, none⟩ = some (.slice none 0 0) := (hp.cell 14).trans h0
  have HB := Lib.hid (Below.refl w.heap.size w)
  clear hp h0
  go_enter Tryz.func102, Tryz.ntmps102
  go_wp2_with fail
  go_loopg [3, 4] 0 (fun g o i wr => o = .slice none 0 0 ∧ i = .int .i64 0 ∧ wr = w)
  case atStart => exact ⟨rfl, rfl, rfl⟩
  case round =>
    obtain ⟨rfl, rfl, rfl⟩ := hrel
    go_wp2_with fail
    go_ret
    exact ⟨rfl, HB.out⟩

set_option maxRecDepth 100000 in
theorem markedDues_none {w : World} :
    Calls Tryz.prog 113 #[.slice none 0 0] w fun e w' => e = .returned (.bool true) ∧ Below w.heap.size w w' := by
  have HB := Lib.hid (Below.refl w.heap.size w)
  go_enter Tryz.func113, Tryz.ntmps113
  go_wp2_with fail
  go_loopg [3] 0 (fun g i wr => i = .int .i64 0 ∧ wr = w)
  case atStart => exact ⟨rfl, rfl⟩
  case round =>
    obtain ⟨rfl, rfl⟩ := hrel
    go_wp2_with fail
    go_ret
    exact ⟨rfl, HB.out⟩


def bookCells (hv hc : Value) : Array Value := #[nilV, nilV, nilV, nilV, hv, hc, nilV, nilV, nilV, nilV, nilV, nilV, nilV, nilV, nilV, nilV, nilV, nilV, nilV, nilV, nilV, nilV]
structure BookAt (w : World) (p : Nat) (hv hc : Value) (L : List KeptI) : Prop where
  has : Has w p 40 (bookCells hv hc)
  rows : Rows w (shelfI hv hc L)
  out : p ∉ foot (shelfI hv hc L)
def bookFoot (p : Nat) (hv hc : Value) (L : List KeptI) : List Nat := p :: foot (shelfI hv hc L)

theorem BookAt.new (w : World) : BookAt (w.alloc (.cells (bookCells nilV nilV) 40)) w.heap.size nilV nilV [] := by
  have hf : foot (shelfI nilV nilV []) = [] := rfl
  refine ⟨Has.made w _ _, ⟨fun r hr => ?_, by rw [hf]; exact List.nodup_nil⟩, by rw [hf]; simp⟩
  simp only [shelfI, List.map_nil, List.append_nil, List.mem_cons, List.not_mem_nil, or_false] at hr
  rcases hr with rfl | rfl <;> exact World.ownsRow_nil _ _ _ _
section
variable {w w' : World} {p : Nat} {hv hc : Value} {L : List KeptI}
theorem BookAt.below (h : BookAt w p hv hc L) (hb : Below w.heap.size w w') : BookAt w' p hv hc L := ⟨h.has.below hb h.has.inside, h.rows.below hb, h.out⟩
theorem BookAt.lt (h : BookAt w p hv hc L) : ∀ g ∈ bookFoot p hv hc L, g < w.heap.size := fun g hg => by
  rcases List.mem_cons.1 hg with rfl | hg
  · exact h.has.inside
  · exact h.rows.lt g hg
end

/-- Lists that wait to be kept: rows that share no block with the book, nor with one another. -/
structure Pend (F : List Nat) (wS w : World) (p : Nat) (hv hc : Value) (L : List KeptI) (R : List (Value × List Itm)) : Prop where
  book : BookAt w p hv hc L
  sub : ∀ g ∈ bookFoot p hv hc L, g ∈ F ∨ wS.heap.size ≤ g
  kept : Kept F wS w
  row : ∀ q ∈ R, w.ownsRow 0 24 4 q.1 q.2.length (cellsD q.2)
  inF : ∀ q ∈ R, ∀ g, q.1.ownBlock = some g → g ∈ F ∧ g < wS.heap.size
  away : ∀ q ∈ R, ∀ g, q.1.ownBlock = some g → g ∉ bookFoot p hv hc L
  apart : R.Pairwise fun a b => ∀ g, a.1.ownBlock = some g → b.1.ownBlock ≠ some g
def pendFoot (p : Nat) (hv hc : Value) (L : List KeptI) (R : List (Value × List Itm)) : List Nat := bookFoot p hv hc L ++ R.flatMap fun q => q.1.ownBlock.toList
section
variable {F : List Nat} {wS w w' : World} {p : Nat} {hv hc : Value} {L : List KeptI} {R : List (Value × List Itm)}
theorem Pend.start (h : BookAt w p hv hc L) (hrow : ∀ q ∈ R, w.ownsRow 0 24 4 q.1 q.2.length (cellsD q.2)) (haway : ∀ q ∈ R, ∀ g, q.1.ownBlock = some g → g ∉ bookFoot p hv hc L) (hap : R.Pairwise fun a b => ∀ g, a.1.ownBlock = some g → b.1.ownBlock ≠ some g) :
    Pend (pendFoot p hv hc L R) w w p hv hc L R :=
  ⟨h, fun g hg => .inl (List.mem_append.2 (.inl hg)), Kept.refl _ _, hrow, fun q hq g hg => ⟨List.mem_append.2 (.inr (List.mem_flatMap.2 ⟨q, hq, by rw [hg]; simp⟩)), ((hrow q hq).lt g hg).2⟩, haway, hap⟩
theorem Pend.below (h : Pend F wS w p hv hc L R) (hb : Below w.heap.size w w') : Pend F wS w' p hv hc L R :=
  ⟨h.book.below hb, h.sub, h.kept.trans (Kept.of_below hb), fun q hq => row_kept (F := []) (h.row q hq) (Kept.of_below hb) (fun _ _ e => by simp at e), h.inF, h.away, h.apart⟩
theorem keep_any {v : Value} {xs : List Itm} (h : Pend F wS w p hv hc L ((v, xs) :: R)) (hL : L.length < 250) (hx : xs.length ≤ 1000000) :
    Calls Tryz.prog 17 #[.pointer (some ⟨p, 0, none⟩), v] w fun e w' => e = .returned (.tuple #[]) ∧ ∃ hv' hc' c, Pend F wS w' p hv' hc' (L ++ [⟨v, c, xs⟩]) R := by
  have hv0 := h.away (v, xs) (by simp)
  refine (bkItems_any h.book.has (by rfl) (by rfl) h.book.rows h.book.out (h.row (v, xs) (by simp)) (fun g hg => ⟨fun e => hv0 g hg (by rw [e]; exact List.mem_cons_self), fun e => hv0 g hg (List.mem_cons_of_mem _ e)⟩) hL hx).mono ?_
  rintro e w' ⟨rfl, hv', hc', c, h1, h2, h3, h4, h5⟩
  have hsz := h.kept.size
  refine ⟨rfl, hv', hc', c, ⟨h1, h2, h3⟩, fun g hg => ?_, h.kept.then_ h4 (fun g hg => h.sub g hg), fun q hq => ?_, fun q hq => h.inF q (List.mem_cons_of_mem _ hq), fun q hq g hg hg' => ?_, (List.pairwise_cons.1 h.apart).2⟩
  · rcases List.mem_cons.1 hg with rfl | hg
    · exact h.sub g List.mem_cons_self
    · rcases h5 g hg with h6 | h6 | h6
      · exact h.sub g (List.mem_cons_of_mem _ h6)
      · exact .inl (h.inF (v, xs) (by simp) g h6).1
      · exact .inr (by omega)
  · exact row_kept (h.row q (List.mem_cons_of_mem _ hq)) h4 (fun g hg => h.away q (List.mem_cons_of_mem _ hq) g hg)
  · have ha := h.away q (List.mem_cons_of_mem _ hq) g hg
    rcases List.mem_cons.1 hg' with rfl | hg'
    · exact ha List.mem_cons_self
    · rcases h5 g hg' with h6 | h6 | h6
      · exact ha (List.mem_cons_of_mem _ h6)
      · exact (List.pairwise_cons.1 h.apart).1 q hq g h6 hg
      · have := (h.inF q (List.mem_cons_of_mem _ hq) g hg).2
        omega
end

/-- The same without copies: lists side by side. -/
structure OneAt (F : List Nat) (w0 w : World) (p : Nat) (hv hc : Value) (m : Nat) (us : Nat → Value) (d : Nat → List Itm) : Prop where
  has : Has w p 40 (bookCells hv hc)
  d : VSt w hv m us d
  pd : p ∉ vfoot hv m us
  sub : ∀ g ∈ vfoot hv m us, g ∈ F
  kept : Kept F w0 w
section
variable {F : List Nat} {w0 w w' : World} {p : Nat} {hv hc : Value} {m : Nat} {us : Nat → Value} {d : Nat → List Itm}
theorem vblocks_sub {g : Nat} (h : g ∈ vblocks m us) : g ∈ vfoot hv m us := List.mem_append.2 (.inr h)
theorem BookAt.one {L : List KeptI} (h : BookAt w p hv hc L) : OneAt (bookFoot p hv hc L) w w p hv hc L.length (vsI L) (csI L) :=
  ⟨h.has, VSt.of h.rows, fun h2 => h.out (vfoot_sub hv hc L p h2), fun g hg => List.mem_cons_of_mem _ (vfoot_sub hv hc L g hg), Kept.refl _ _⟩
theorem OneAt.below (h : OneAt F w0 w p hv hc m us d) (hb : Below w.heap.size w w') : OneAt F w0 w' p hv hc m us d :=
  ⟨h.has.below hb h.has.inside, h.d.below hb, h.pd, h.sub, h.kept.trans (Kept.of_below hb)⟩
theorem OneAt.put (h : OneAt F w0 w p hv hc m us d) (hE : PutEndI w hv m us d w') : OneAt F w0 w' p hv hc m us (fun j => marksD j 0 (d j).length) :=
  ⟨h.has.kept hE.2 (fun hp => h.pd (vblocks_sub hp)), hE.1, h.pd, h.sub, h.kept.then_ hE.2 (fun g hg => .inl (h.sub g (vblocks_sub hg)))⟩
/-- They are grown. -/
structure NoneAt (F : List Nat) (w0 w : World) (p : Nat) (hv hc ov : Value) : Prop where
  has : Has w p 40 (bookCells hv hc)
  d : RdsI w [] hv ov
  kept : Kept F w0 w
theorem NoneAt.below {ov : Value} (h : NoneAt F w0 w p hv hc ov) (hb : Below w.heap.size w w') : NoneAt F w0 w' p hv hc ov :=
  ⟨h.has.below hb h.has.inside, h.d.below hb, h.kept.trans (Kept.of_below hb)⟩
theorem OneAt.grow {ln : Nat → Nat} {ov : Value} (hn : m ≤ 250) (hx : ∀ j, j < m → ln j ≤ 900000) (h : OneAt F w0 w p hv hc m us (fun j => marksD j 0 (ln j))) (hE : GrowEndI w hv m us ln ov w') : NoneAt F w0 w' p hv hc ov := by
  have hk : Kept (vblocks m us) w w' := by obtain ⟨cur, hG⟩ := hE; exact hG.st.kept
  have h0 : ∀ j, j < m → w.ownsRow 0 24 4 (us j) (ln j) (cellsD (marksD j 0 (ln j))) := fun j hj => by
    have := h.d.row j hj
    rwa [length_marksD] at this
  exact ⟨h.has.kept hk (fun hp => h.pd (vblocks_sub hp)), RdsI.of hn hx h0 hE (fun g hg => by simp at hg), h.kept.then_ hk (fun g hg => .inl (h.sub g (vblocks_sub hg)))⟩
end

set_option maxRecDepth 1000000 in
set_option maxHeartbeats 4000000 in
theorem apart_any {w : World} {p : Nat} {hv hc : Value} {L : List KeptI} (hB : BookAt w p hv hc L) (hL : L.length ≤ 250) (hx : ∀ x ∈ L, x.xs.length ≤ 900000) :
    Calls Tryz.prog 27 #[.pointer (some ⟨p, 0, none⟩)] w fun e w' => e = .returned (.bool true) ∧ Kept (bookFoot p hv hc L) w w' := by
  have HB := Lib.hid (And.intro hB (Kept.refl (bookFoot p hv hc L) w))
  have HL := Lib.hid (And.intro hL hx)
  clear hB hL hx
  go_enter Tryz.func27, Tryz.ntmps27
  have hc0 := stillTexts_none HB.out.1.has (by rfl)
  go_wp2_with fail
  refine hc0.mono ?_
  rintro e w0 ⟨rfl, hb⟩
  replace HB := Lib.hid (And.intro (HB.out.1.below hb) (HB.out.2.trans (Kept.of_below hb)))
  clear hc0 hb
  have hc1 := stillInts_none HB.out.1.has (by rfl)
  go_wp2_with fail
  refine hc1.mono ?_
  rintro e w1 ⟨rfl, hb⟩
  replace HB := Lib.hid (And.intro (HB.out.1.below hb) (HB.out.2.trans (Kept.of_below hb)))
  clear hc1 hb
  have hc2 := stillItems_any HB.out.1.has (by rfl) (by rfl) HB.out.1.rows HL.out.1 (fun x hx => by have := HL.out.2 x hx; omega)
  go_wp2_with fail
  refine hc2.mono ?_
  rintro e w2 ⟨rfl, hb⟩
  replace HB := Lib.hid (And.intro (HB.out.1.below hb) (HB.out.2.trans (Kept.of_below hb)))
  clear hc2 hb
  have hc3 := stillChildren_none HB.out.1.has (by rfl)
  go_wp2_with fail
  refine hc3.mono ?_
  rintro e w3 ⟨rfl, hb⟩
  replace HB := Lib.hid (And.intro (HB.out.1.below hb) (HB.out.2.trans (Kept.of_below hb)))
  clear hc3 hb
  have hc4 := stillPairs_none HB.out.1.has (by rfl)
  go_wp2_with fail
  refine hc4.mono ?_
  rintro e w4 ⟨rfl, hb⟩
  replace HB := Lib.hid (And.intro (HB.out.1.below hb) (HB.out.2.trans (Kept.of_below hb)))
  clear hc4 hb
  have hc5 := stillEntries_none HB.out.1.has (by rfl)
  go_wp2_with fail
  refine hc5.mono ?_
  rintro e w5 ⟨rfl, hb⟩
  replace HB := Lib.hid (And.intro (HB.out.1.below hb) (HB.out.2.trans (Kept.of_below hb)))
  clear hc5 hb
  have hc6 := stillMsgs_none HB.out.1.has (by rfl)
  go_wp2_with fail
  refine hc6.mono ?_
  rintro e w6 ⟨rfl, hb⟩
  replace HB := Lib.hid (And.intro (HB.out.1.below hb) (HB.out.2.trans (Kept.of_below hb)))
  clear hc6 hb
  have hc7 := stillDues_none HB.out.1.has (by rfl)
  go_wp2_with fail
  refine hc7.mono ?_
  rintro e w7 ⟨rfl, hb⟩
  replace HB := Lib.hid (And.intro (HB.out.1.below hb) (HB.out.2.trans (Kept.of_below hb)))
  clear hc7 hb
  have hc8 := stillPackets_none HB.out.1.has (by rfl)
  go_wp2_with fail
  refine hc8.mono ?_
  rintro e w8 ⟨rfl, hb⟩
  replace HB := Lib.hid (And.intro (HB.out.1.below hb) (HB.out.2.trans (Kept.of_below hb)))
  clear hc8 hb
  have hc9 := stillEvents_none HB.out.1.has (by rfl)
  go_wp2_with fail
  refine hc9.mono ?_
  rintro e w9 ⟨rfl, hb⟩
  replace HB := Lib.hid (And.intro (HB.out.1.below hb) (HB.out.2.trans (Kept.of_below hb)))
  clear hc9 hb
  have hc10 := stillSteps_none HB.out.1.has (by rfl)
  go_wp2_with fail
  refine hc10.mono ?_
  rintro e w10 ⟨rfl, hb⟩
  replace HB := Lib.hid (And.intro (HB.out.1.below hb) (HB.out.2.trans (Kept.of_below hb)))
  clear hc10 hb
  have hT0 := HB.out.1.one
  have hT : OneAt (bookFoot p hv hc L) w w10 p hv hc L.length (vsI L) (csI L) := ⟨hT0.has, hT0.d, hT0.pd, hT0.sub, HB.out.2⟩
  have hlen : ∀ j, j < L.length → (csI L j).length ≤ 900000 := fun j hj => by rw [csI_at hj]; exact HL.out.2 _ (List.getElem_mem hj)
  have HX := Lib.hid (And.intro HL.out.1 hlen)
  clear hlen hT0
  generalize L.length = m at *
  generalize vsI L = us at *
  generalize csI L = d at *
  have HT := Lib.hid hT
  clear hT HB HL
  have hc0 := putMsgs_none HT.out.has (by rfl)
  go_wp2_with fail
  refine hc0.mono ?_
  rintro e v0 ⟨rfl, hb⟩
  replace HT := Lib.hid (HT.out.below hb)
  clear hc0 hb
  have hc1 := putSteps_none HT.out.has (by rfl)
  go_wp2_with fail
  refine hc1.mono ?_
  rintro e v1 ⟨rfl, hb⟩
  replace HT := Lib.hid (HT.out.below hb)
  clear hc1 hb
  have hc2 := putTexts_none HT.out.has (by rfl)
  go_wp2_with fail
  refine hc2.mono ?_
  rintro e v2 ⟨rfl, hb⟩
  replace HT := Lib.hid (HT.out.below hb)
  clear hc2 hb
  have hc3 := putInts_none HT.out.has (by rfl)
  go_wp2_with fail
  refine hc3.mono ?_
  rintro e v3 ⟨rfl, hb⟩
  replace HT := Lib.hid (HT.out.below hb)
  clear hc3 hb
  have hc4 := putItems_any HT.out.has (by rfl) HT.out.d (fun j hj e => HT.out.pd (mem_vfoot.2 (.inr ⟨j, hj, e⟩))) HX.out.1 (fun j hj => by have := HX.out.2 j hj; omega)
  go_wp2_with fail
  refine hc4.mono ?_
  rintro e v4 ⟨rfl, hb⟩
  replace HT := Lib.hid (HT.out.put hb)
  clear hc4 hb
  have hc5 := putChildren_none HT.out.has (by rfl)
  go_wp2_with fail
  refine hc5.mono ?_
  rintro e v5 ⟨rfl, hb⟩
  replace HT := Lib.hid (HT.out.below hb)
  clear hc5 hb
  have hc6 := putPairs_none HT.out.has (by rfl)
  go_wp2_with fail
  refine hc6.mono ?_
  rintro e v6 ⟨rfl, hb⟩
  replace HT := Lib.hid (HT.out.below hb)
  clear hc6 hb
  have hc7 := putEntries_none HT.out.has (by rfl)
  go_wp2_with fail
  refine hc7.mono ?_
  rintro e v7 ⟨rfl, hb⟩
  replace HT := Lib.hid (HT.out.below hb)
  clear hc7 hb
  have hc8 := putDues_none HT.out.has (by rfl)
  go_wp2_with fail
  refine hc8.mono ?_
  rintro e v8 ⟨rfl, hb⟩
  replace HT := Lib.hid (HT.out.below hb)
  clear hc8 hb
  have hc9 := putPackets_none HT.out.has (by rfl)
  go_wp2_with fail
  refine hc9.mono ?_
  rintro e v9 ⟨rfl, hb⟩
  replace HT := Lib.hid (HT.out.below hb)
  clear hc9 hb
  have hc10 := putEvents_none HT.out.has (by rfl)
  go_wp2_with fail
  refine hc10.mono ?_
  rintro e v10 ⟨rfl, hb⟩
  replace HT := Lib.hid (HT.out.below hb)
  clear hc10 hb
  have hc0 := growTexts_none HT.out.has (by rfl)
  go_wp2_with fail
  refine hc0.mono ?_
  rintro e x0 ⟨rfl, hb⟩
  replace HT := Lib.hid (HT.out.below hb)
  clear hc0 hb
  have hc1 := growInts_none HT.out.has (by rfl)
  go_wp2_with fail
  refine hc1.mono ?_
  rintro e x1 ⟨rfl, hb⟩
  replace HT := Lib.hid (HT.out.below hb)
  clear hc1 hb
  have hGS := GSt.of HT.out.d (ln := fun j => (d j).length) (fun _ _ => rfl)
  have hc2 := growItems_any HT.out.has (by rfl) hGS.1 hGS.2 (fun j hj e => HT.out.pd (mem_vfoot.2 (.inr ⟨j, hj, e⟩))) HX.out.1 (fun j hj => by have := HX.out.2 j hj; show (d j).length ≤ _; omega)
  clear hGS
  go_wp2_with fail
  refine hc2.mono ?_
  rintro e x2 ⟨ov, rfl, hb⟩
  have HT2 := Lib.hid (OneAt.grow HX.out.1 HX.out.2 HT.out hb)
  clear hc2 hb HT
  have hc3 := growChildren_none HT2.out.has (by rfl)
  go_wp2_with fail
  refine hc3.mono ?_
  rintro e x3 ⟨rfl, hb⟩
  replace HT2 := Lib.hid (HT2.out.below hb)
  clear hc3 hb
  have hc4 := growPairs_none HT2.out.has (by rfl)
  go_wp2_with fail
  refine hc4.mono ?_
  rintro e x4 ⟨rfl, hb⟩
  replace HT2 := Lib.hid (HT2.out.below hb)
  clear hc4 hb
  have hc5 := growEntries_none HT2.out.has (by rfl)
  go_wp2_with fail
  refine hc5.mono ?_
  rintro e x5 ⟨rfl, hb⟩
  replace HT2 := Lib.hid (HT2.out.below hb)
  clear hc5 hb
  have hc6 := growMsgs_none HT2.out.has (by rfl)
  go_wp2_with fail
  refine hc6.mono ?_
  rintro e x6 ⟨rfl, hb⟩
  replace HT2 := Lib.hid (HT2.out.below hb)
  clear hc6 hb
  have hc7 := growDues_none HT2.out.has (by rfl)
  go_wp2_with fail
  refine hc7.mono ?_
  rintro e x7 ⟨rfl, hb⟩
  replace HT2 := Lib.hid (HT2.out.below hb)
  clear hc7 hb
  have hc8 := growPackets_none HT2.out.has (by rfl)
  go_wp2_with fail
  refine hc8.mono ?_
  rintro e x8 ⟨rfl, hb⟩
  replace HT2 := Lib.hid (HT2.out.below hb)
  clear hc8 hb
  have hc9 := growEvents_none HT2.out.has (by rfl)
  go_wp2_with fail
  refine hc9.mono ?_
  rintro e x9 ⟨rfl, hb⟩
  replace HT2 := Lib.hid (HT2.out.below hb)
  clear hc9 hb
  have hc10 := growSteps_none HT2.out.has (by rfl)
  go_wp2_with fail
  refine hc10.mono ?_
  rintro e x10 ⟨rfl, hb⟩
  replace HT2 := Lib.hid (HT2.out.below hb)
  clear hc10 hb
  have hcc := @markedTexts_none x10
  go_wp2_with fail
  refine hcc.mono ?_
  rintro e y0 ⟨rfl, hb⟩
  replace HT2 := Lib.hid (HT2.out.below hb)
  clear hcc hb
  have hcc := @markedTexts_none y0
  have hq : y0.cell? ⟨p, 0, none⟩ = some (.slice none 0 0) := HT2.out.has.cell 0
  go_wp2_with fail
  refine hcc.mono ?_
  rintro e y1 ⟨rfl, hb⟩
  replace HT2 := Lib.hid (HT2.out.below hb)
  clear hcc hb hq
  have hcc := @markedInts_none y1
  go_wp2_with fail
  refine hcc.mono ?_
  rintro e y2 ⟨rfl, hb⟩
  replace HT2 := Lib.hid (HT2.out.below hb)
  clear hcc hb
  have hcc := @markedInts_none y2
  have hq : y2.cell? ⟨p, 2, none⟩ = some (.slice none 0 0) := HT2.out.has.cell 2
  go_wp2_with fail
  refine hcc.mono ?_
  rintro e y3 ⟨rfl, hb⟩
  replace HT2 := Lib.hid (HT2.out.below hb)
  clear hcc hb hq
  have hcc := HT2.out.d.second
  go_wp2_with fail
  refine hcc.mono ?_
  rintro e y4 ⟨rfl, hb⟩
  replace HT2 := Lib.hid (HT2.out.below hb)
  clear hcc hb
  have hcc := HT2.out.d.first
  have hq : y4.cell? ⟨p, 4, none⟩ = some hv := HT2.out.has.cell 4
  go_wp2_with fail
  refine hcc.mono ?_
  rintro e y5 ⟨rfl, hb⟩
  replace HT2 := Lib.hid (HT2.out.below hb)
  clear hcc hb hq
  have hcc := @markedChildren_none y5
  go_wp2_with fail
  refine hcc.mono ?_
  rintro e y6 ⟨rfl, hb⟩
  replace HT2 := Lib.hid (HT2.out.below hb)
  clear hcc hb
  have hcc := @markedChildren_none y6
  have hq : y6.cell? ⟨p, 6, none⟩ = some (.slice none 0 0) := HT2.out.has.cell 6
  go_wp2_with fail
  refine hcc.mono ?_
  rintro e y7 ⟨rfl, hb⟩
  replace HT2 := Lib.hid (HT2.out.below hb)
  clear hcc hb hq
  have hcc := @markedPairs_none y7
  go_wp2_with fail
  refine hcc.mono ?_
  rintro e y8 ⟨rfl, hb⟩
  replace HT2 := Lib.hid (HT2.out.below hb)
  clear hcc hb
  have hcc := @markedPairs_none y8
  have hq : y8.cell? ⟨p, 8, none⟩ = some (.slice none 0 0) := HT2.out.has.cell 8
  go_wp2_with fail
  refine hcc.mono ?_
  rintro e y9 ⟨rfl, hb⟩
  replace HT2 := Lib.hid (HT2.out.below hb)
  clear hcc hb hq
  have hcc := @markedEntries_none y9
  go_wp2_with fail
  refine hcc.mono ?_
  rintro e y10 ⟨rfl, hb⟩
  replace HT2 := Lib.hid (HT2.out.below hb)
  clear hcc hb
  have hcc := @markedEntries_none y10
  have hq : y10.cell? ⟨p, 10, none⟩ = some (.slice none 0 0) := HT2.out.has.cell 10
  go_wp2_with fail
  refine hcc.mono ?_
  rintro e y11 ⟨rfl, hb⟩
  replace HT2 := Lib.hid (HT2.out.below hb)
  clear hcc hb hq
  have hcc := @markedMsgs_none y11
  go_wp2_with fail
  refine hcc.mono ?_
  rintro e y12 ⟨rfl, hb⟩
  replace HT2 := Lib.hid (HT2.out.below hb)
  clear hcc hb
  have hcc := @markedMsgs_none y12
  have hq : y12.cell? ⟨p, 12, none⟩ = some (.slice none 0 0) := HT2.out.has.cell 12
  go_wp2_with fail
  refine hcc.mono ?_
  rintro e y13 ⟨rfl, hb⟩
  replace HT2 := Lib.hid (HT2.out.below hb)
  clear hcc hb hq
  have hcc := @markedDues_none y13
  go_wp2_with fail
  refine hcc.mono ?_
  rintro e y14 ⟨rfl, hb⟩
  replace HT2 := Lib.hid (HT2.out.below hb)
  clear hcc hb
  have hcc := @markedDues_none y14
  have hq : y14.cell? ⟨p, 14, none⟩ = some (.slice none 0 0) := HT2.out.has.cell 14
  go_wp2_with fail
  refine hcc.mono ?_
  rintro e y15 ⟨rfl, hb⟩
  replace HT2 := Lib.hid (HT2.out.below hb)
  clear hcc hb hq
  have hcc := @markedPackets_none y15
  go_wp2_with fail
  refine hcc.mono ?_
  rintro e y16 ⟨rfl, hb⟩
  replace HT2 := Lib.hid (HT2.out.below hb)
  clear hcc hb
  have hcc := @markedPackets_none y16
  have hq : y16.cell? ⟨p, 16, none⟩ = some (.slice none 0 0) := HT2.out.has.cell 16
  go_wp2_with fail
  refine hcc.mono ?_
  rintro e y17 ⟨rfl, hb⟩
  replace HT2 := Lib.hid (HT2.out.below hb)
  clear hcc hb hq
  have hcc := @markedEvents_none y17
  go_wp2_with fail
  refine hcc.mono ?_
  rintro e y18 ⟨rfl, hb⟩
  replace HT2 := Lib.hid (HT2.out.below hb)
  clear hcc hb
  have hcc := @markedEvents_none y18
  have hq : y18.cell? ⟨p, 18, none⟩ = some (.slice none 0 0) := HT2.out.has.cell 18
  go_wp2_with fail
  refine hcc.mono ?_
  rintro e y19 ⟨rfl, hb⟩
  replace HT2 := Lib.hid (HT2.out.below hb)
  clear hcc hb hq
  have hcc := @markedSteps_none y19
  go_wp2_with fail
  refine hcc.mono ?_
  rintro e y20 ⟨rfl, hb⟩
  replace HT2 := Lib.hid (HT2.out.below hb)
  clear hcc hb
  have hcc := @markedSteps_none y20
  have hq : y20.cell? ⟨p, 20, none⟩ = some (.slice none 0 0) := HT2.out.has.cell 20
  go_wp2_with fail
  refine hcc.mono ?_
  rintro e y21 ⟨rfl, hb⟩
  replace HT2 := Lib.hid (HT2.out.below hb)
  clear hcc hb hq
  go_wp2_with fail
  go_ret
  exact ⟨rfl, HT2.out.kept⟩
end Go.Proofs.YtpfifmjcmpankaaGreat.BI
