/-
  Walks over package dev's line of waiting writes: a write is put, the line is widened, a twin is made. Walks over package dev's line of waiting writes: a write is put whatever room there is; a twin is made.
-/
import Derived.Test.YthcpjpebahiikaaDoorMg22
import Derived.Deep.LoopGhost
import Derived.Conc.SmallLaws
namespace Go.Proofs.YthcpjpebahiikaaDoor
open Go.RowKit Go.Lib

set_option maxRecDepth 1000000 in
set_option maxHeartbeats 400000 in
theorem put_room (g : Nat) (t : TypeId) (cs : Array Value) (o : Nat) (x : Int) (d : ByteArray) (l : List (Int × ByteArray)) (cap c : Nat) (w : World) (h : LineAt w g t cs o l cap (some c)) (hroom : l.length < cap) :
    Calls Tryd.prog 35 #[.pointer (some ⟨g, o, none⟩), .agg #[.int .i64 x, .string d]] w fun e w' => e = .returned (.tuple #[]) ∧ LineAt w' g t cs o (l ++ [(x, d)]) cap (some c) ∧ Kept [c] w w' := by
  obtain ⟨s, r, hc⟩ := h.full _ rfl
  have hcell : w.cell? ⟨g, o, none⟩ = some (.chan (some c)) := (h.has.cell o).trans h.cell
  have hgl := h.has.inside
  have hcl := (Array.getElem?_eq_some_iff.1 hc).1
  have HC1 := Lib.hid ((Below.heap_alloc w (.cells #[.int .i64 x, .string d] 72) c hcl).trans hc)
  have HF := Lib.hid (h.turned (l' := l ++ [(x, d)]) (s := s + 1) (r := r) ((Kept.refl [] w).alloc (.cells #[.int .i64 x, .string d] 72)) (by simp; omega))
  clear hc h
  refine calls_of_wn Tryd.func35 rfl ?_
  simp only [Tryd.ntmps35, List.size_toArray, List.length_cons, List.length_nil, Nat.reduceAdd, Nat.reduceSub, Array.replicate_succ,
     Array.replicate_zero, List.push_toArray, List.append_toArray, List.nil_append, List.cons_append]
  refine wn_seq (wn_of_wp ?_)
  go_wp2
  refine wn_block (wn_loop 1 ?_)
  refine wn_block (wn_seq (wn_of_wp ?_))
  go_wp2
  obtain ⟨w2, hw2⟩ : ∃ w2, w2 = (w.alloc (.cells #[.int .i64 x, .string d] 72)).setChan c cap (((l ++ [(x, d)]).map wv).toArray) false (s + 1) r false := ⟨_, rfl⟩
  refine wn_seq (wn_comm (cases := #[Conc.scase c (.agg #[.int .i64 x, .string d]) (.agg #[.int .i64 0, .string { data := #[] }])]) (blocking := false) (shape := .select) (w1 := w.alloc (.cells #[.int .i64 x, .string d] 72))
    (v := .tuple #[goInt 0, .bool false]) (w2 := w2) rfl (by simp [go_sem, execOp, Conc.scase, Act.eval]) ?_ ?_)
  · intro fr cs es hh
    have h9 := Conc.step_lone_select_send_room hh HC1.out (by simpa using hroom)
    rw [h9, hw2]
    simp [wv]
  have HF2 := Lib.hid HF.out
  rw [← hw2] at HF2
  clear hw2
  go_wp2
  refine wn_block (wn_cond rfl (wn_of_wp ?_))
  go_wp2
  exact bodyPost_ret (results_none rfl _ _ _) rfl ⟨rfl, HF2.out⟩

theorem infoWrite : ∃ i, Tryd.prog.info? 72 = some i ∧ i.bytes = 24 := by
  have h : (Tryd.prog.info? 72).map (·.bytes) = some 24 := by kernel_rfl
  obtain ⟨i, hi, hb⟩ := Option.map_eq_some_iff.1 h
  exact ⟨i, hi, hb⟩
theorem make_line (n : Int) (m : Nat) (e : n = m) (h : m ≤ 1000000000000) (w : World) : (Instr.makeChan 58 (.int .i64 n)).run Tryd.prog w = .ok (.chan (some w.heap.size)) (w.alloc (.chan m #[] false 0 0 false)) := by
  obtain ⟨i, hi, hb⟩ := infoWrite
  subst e
  exact Conc.run_makeChan (P := Tryd.prog) (w := w) Tryd.underlying58 hi .i64 m (by omega) (by rw [hb]; omega)
theorem cap_nil (ty : TypeId) (w : World) : (Builtin.cap_ #[58] ty #[.chan none]).run Tryd.prog w = .ok (goInt 0) w := by simp [Builtin.cap_, run_underlying Tryd.underlying58]

theorem LineAt.repoint {w : World} {g : Nat} {t : TypeId} {cs : Array Value} {o : Nat} {l : List (Int × ByteArray)} {cap c s r : Nat} (hh : Has w g t cs) (ho : o < cs.size) (hc : w.heap[c]? = some (chanOf cap l s r)) (hl : l.length ≤ cap) (h16 : 16 ≤ cap) (ob : Obj) :
    LineAt ((w.setCell ⟨g, o, none⟩ (.chan (some c))).alloc ob) g t (cs.setIfInBounds o (.chan (some c))) o l cap (some c) := by
  have hne : g ≠ c := by
    intro e
    subst e
    unfold Has at hh
    rw [hh] at hc
    cases hc
  refine ⟨(hh.put o _).alloc _, by simp [ho], (fun e => by cases e), fun c' e => ?_, hl, fun _ _ => h16⟩
  cases e
  exact ⟨s, r, (Below.heap_alloc _ _ _ (by simpa [World.setCell] using (Array.getElem?_eq_some_iff.1 hc).1)).trans ((Below.heap_setCell w _ _ c (fun e => hne e.symm)).trans hc)⟩
theorem LineAt.unalloc {w : World} {g : Nat} {t : TypeId} {cs : Array Value} {o : Nat} {l : List (Int × ByteArray)} {cap c : Nat} {ob : Obj} (h : LineAt (w.alloc ob) g t cs o l cap (some c)) (hg : g < w.heap.size) (hc : c < w.heap.size) : LineAt w g t cs o l cap (some c) := by
  refine ⟨(Below.heap_alloc w ob g hg).symm.trans h.has, h.cell, h.nil_, fun c' e => ?_, h.le, h.wide⟩
  cases e
  obtain ⟨s, r, h2⟩ := h.full c rfl
  exact ⟨s, r, (Below.heap_alloc w ob c hc).symm.trans h2⟩
theorem LineAt.off {w : World} {g : Nat} {t : TypeId} {cs : Array Value} {o : Nat} {l : List (Int × ByteArray)} {cap : Nat} {ch : Option Nat} (h : LineAt w g t cs o l cap ch) : o < cs.size := (Array.getElem?_eq_some_iff.1 h.cell).1

set_option maxRecDepth 1000000 in
set_option maxHeartbeats 400000 in
theorem widen_nil (g : Nat) (t : TypeId) (cs : Array Value) (o : Nat) (w : World) (h : LineAt w g t cs o [] 0 none) :
    Calls Tryd.prog 53 #[.pointer (some ⟨g, o, none⟩)] w fun e w' => e = .returned (.tuple #[]) ∧ ∃ c', w.heap.size ≤ c' ∧ LineAt w' g t (cs.setIfInBounds o (.chan (some c'))) o [] 16 (some c') ∧ Kept [g] w w' := by
  have hcell : w.cell? ⟨g, o, none⟩ = some (.chan none) := (h.has.cell o).trans h.cell
  have hfz := h.has.free o
  have hgl := h.has.inside
  have hcap := cap_nil
  have hmk := make_line 16 16 rfl (by omega)
  have hT := take_nil g o ((w.alloc (.chan 16 #[] false 0 0 false)).alloc (.cells #[.chan (some w.heap.size)] 60)) (by simp; omega) (by rw [World.cell?_of_block (w := w) ((Below.heap_alloc _ _ _ (by simp; omega)).trans (Below.heap_alloc _ _ _ hgl))]; exact hcell)
  have H := Lib.hid h
  clear h
  go_enter Tryd.func53, Tryd.ntmps53
  go_wp2_with fail
  refine hT.mono ?_
  rintro e w1 ⟨rfl, hk1⟩
  have hs1 := hk1.size
  simp only [World.size_alloc] at hs1
  have hk0 : Kept [] w ((w.alloc (.chan 16 #[] false 0 0 false)).alloc (.cells #[.chan (some w.heap.size)] 60)) := ((Kept.refl _ _).alloc _).alloc _
  have hk2 : Kept [] w w1 := hk0.trans hk1
  have hh := H.out.has.kept hk2 (by simp)
  have hfz1 := hh.free o
  have hcell1 : w1.cell? ⟨g, o, none⟩ = some (.chan none) := (hh.cell o).trans H.out.cell
  have hw : Has w1 (w.heap.size + 1) 60 #[.chan (some w.heap.size)] := (by simpa using Has.made (w.alloc (.chan 16 #[] false 0 0 false)) 60 #[.chan (some w.heap.size)] : Has _ (w.heap.size + 1) 60 #[.chan (some w.heap.size)]).kept hk1 (by simp)
  have hwc := hw.cell 0
  have hc : w1.heap[w.heap.size]? = some (.chan 16 #[] false 0 0 false) := chan_kept ((Below.heap_alloc _ _ _ (by simp)).trans (heap_alloc_new w _)) hk1 (by simp)
  simp at hwc
  have hgl1 : g < w1.heap.size := by omega
  have hgl2 : w.heap.size + 1 < w1.heap.size := by omega
  have HH := Lib.hid hh
  have HC := Lib.hid hc
  have HK := Lib.hid hk2
  clear hh hc hw hT hk0 hk1 hk2
  go_wp2
  refine wp_loop_rounds 1 ?_
  rw [rounds_succ]
  go_wp2
  refine bodyPost_end (results_none rfl _ _ _) rfl ⟨rfl, w.heap.size, Nat.le_refl _, LineAt.repoint HH.out H.out.off HC.out (by simp) (by simp) _, ?_⟩
  exact ((HK.out.mono (by simp)).setCell (.inl (by simp)) _).alloc _

/-- Where a widening stands: done lies in the wide line, the write in hand (if there is one) comes next, rest is left in the old line. -/
def Widening (w : World) (g : Nat) (t : TypeId) (cs : Array Value) (o c cap : Nat) (l : List (Int × ByteArray)) (k : Nat) (p ok : Value) (wr : World) : Prop :=
  Kept [c] w wr ∧ Has wr g t cs ∧ ∃ b done, p = .pointer (some ⟨b, 0, none⟩) ∧ w.heap.size + 2 ≤ b ∧ LineAt wr (w.heap.size + 1) 60 #[.chan (some w.heap.size)] 0 done (2 * cap) (some w.heap.size) ∧
    ((∃ x d rest, ok = .bool true ∧ Has wr b 72 #[.int .i64 x, .string d] ∧ done ++ (x, d) :: rest = l ∧ LineAt wr g t cs o rest cap (some c) ∧ k = rest.length + 1) ∨ (ok = .bool false ∧ done = l ∧ k = 0))

set_option maxRecDepth 1000000 in
set_option maxHeartbeats 800000 in
theorem widen_some (g : Nat) (t : TypeId) (cs : Array Value) (o : Nat) (l : List (Int × ByteArray)) (cap c : Nat) (w : World) (h : LineAt w g t cs o l cap (some c)) (hl : l ≠ []) (hcap : cap ≤ 100000000000) :
    Calls Tryd.prog 53 #[.pointer (some ⟨g, o, none⟩)] w fun e w' => e = .returned (.tuple #[]) ∧ ∃ c', w.heap.size ≤ c' ∧ LineAt w' g t (cs.setIfInBounds o (.chan (some c'))) o l (2 * cap) (some c') ∧ Kept [g, c] w w' := by
  obtain ⟨⟨x, d⟩, rest, rfl⟩ := List.exists_cons_of_ne_nil hl
  obtain ⟨s, r, hc⟩ := h.full _ rfl
  have hcell : w.cell? ⟨g, o, none⟩ = some (.chan (some c)) := (h.has.cell o).trans h.cell
  have hgl := h.has.inside
  have h16 := h.wide c rfl
  have hle := h.le
  have hcl := (Array.getElem?_eq_some_iff.1 hc).1
  have hcp := fun ty => Conc.run_cap_chan (P := Tryd.prog) 58 ty Tryd.underlying58 hc
  have hmk := make_line (2 * (cap : Int)) (2 * cap) (by omega) (by omega)
  have hk0 : Kept [] w ((w.alloc (.chan (2 * cap) #[] false 0 0 false)).alloc (.cells #[.chan (some w.heap.size)] 60)) := ((Kept.refl _ _).alloc _).alloc _
  have hT := dvtake_some g t cs o x d rest cap c ((w.alloc (.chan (2 * cap) #[] false 0 0 false)).alloc (.cells #[.chan (some w.heap.size)] 60)) (h.kept hk0 (by simp) (by simp))
  have H := Lib.hid h
  clear h hc hl
  go_enter Tryd.func53, Tryd.ntmps53
  go_wp2_with fail
  refine hT.mono ?_
  rintro e w1 ⟨rfl, hl1, hk1⟩
  have hs1 := hk1.size
  simp only [World.size_alloc] at hs1
  have hlw : LineAt w1 (w.heap.size + 1) 60 #[.chan (some w.heap.size)] 0 [] (2 * cap) (some w.heap.size) := by
    refine LineAt.kept (F := [c]) ⟨by simpa using Has.made (w.alloc (.chan (2 * cap) #[] false 0 0 false)) 60 #[.chan (some w.heap.size)], by simp, (fun e => by cases e), fun c' e => ?_, by simp, fun _ _ => by omega⟩ hk1 (by simp; omega) (fun c' e => by cases e; simp; omega)
    cases e
    exact ⟨0, 0, (Below.heap_alloc _ _ _ (by simp)).trans (heap_alloc_new w _)⟩
  have hst : Widening w g t cs o c cap ((x, d) :: rest) (rest.length + 1) (.pointer (some ⟨w1.heap.size, 0, none⟩)) (.bool true) (w1.alloc (.cells #[.int .i64 x, .string d] 72)) :=
    ⟨((hk0.mono (G := [c]) (by simp)).trans hk1).alloc _, hl1.has.alloc _, w1.heap.size, [], rfl, by omega, hlw.kept ((Kept.refl [] _).alloc _) (by simp) (by simp), .inl ⟨x, d, rest, rfl, Has.made _ _ _, rfl, hl1.kept ((Kept.refl [] _).alloc _) (by simp) (by simp), rfl⟩⟩
  have HST := Lib.hid hst
  have H0 := Lib.hid (And.intro hgl hcl)
  clear hst hlw hl1 hk1 hk0 hT hcp hcell hgl hcl hmk
  go_wp2
  go_loopg [3, 4] (rest.length + 1) (fun k p ok wr => Widening w g t cs o c cap ((x, d) :: rest) k p ok wr)
  case atStart => exact HST.out
  case round =>
    clear HST
    obtain ⟨hkw, hhg, b, done, rfl, hb, hlw, ⟨x1, d1, rest1, rfl, hhb, hl1, hlg, rfl⟩ | ⟨rfl, rfl, rfl⟩⟩ := hrel
    · have hlen : done.length < 2 * cap := by
        have := congrArg List.length hl1
        simp at this
        simp at hle
        omega
      have hP := put_room (w.heap.size + 1) 60 #[.chan (some w.heap.size)] 0 x1 d1 done (2 * cap) w.heap.size wr hlw hlen
      have k0 := hhb.cell 0
      have k1 := hhb.cell 1
      simp at k0 k1
      have hsw := hkw.size
      have hlw2 := hlw.has.inside
      have HHB := Lib.hid hhb
      have HLG := Lib.hid hlg
      have HKW := Lib.hid hkw
      have HL1 := Lib.hid hl1
      clear hhb hlg hkw hl1 hlen hlw hhg
      go_wp2_with fail
      refine hP.mono ?_
      rintro e w2 ⟨rfl, hl2, hk2⟩
      have hs2 := hk2.size
      have hb1 : b < wr.heap.size := HHB.out.inside
      have hh2 := HHB.out.kept hk2 (by simp; omega)
      have k0' := hh2.cell 0
      have k1' := hh2.cell 1
      simp at k0' k1'
      have hg0 := H.out.has.inside
      obtain ⟨s5, r5, hc5⟩ := H.out.full _ rfl
      have hc0 := (Array.getElem?_eq_some_iff.1 hc5).1
      have hlg2 : LineAt (w2.alloc (.cells #[.int .i64 x1, .string d1] 72)) g t cs o rest1 cap (some c) :=
        (HLG.out.kept hk2 (by simp; omega) (fun c' e => by cases e; simp; omega)).kept ((Kept.refl [] _).alloc _) (by simp) (by simp)
      have hlw3 := hl2.kept ((Kept.refl [] _).alloc (.cells #[.int .i64 x1, .string d1] 72)) (by simp) (by simp)
      have hkw2 : Kept [c] w (w2.alloc (.cells #[.int .i64 x1, .string d1] 72)) := (HKW.out.then_ hk2 (by simp)).alloc _
      have hh3 := Has.made w2 72 #[.int .i64 x1, .string d1]
      clear hc5
      rcases rest1 with _ | ⟨⟨x2, d2⟩, rest2⟩
      · have hT := take_empty g t cs o cap c _ hlg2
        have HX := Lib.hid (And.intro hlg2 (And.intro hlw3 (And.intro hkw2 (And.intro hh3 hl2))))
        clear hlg2 hlw3 hkw2 hh3 hl2 hk2 hh2 hP
        go_wp2_with fail
        refine hT.mono ?_
        rintro e w4 ⟨rfl, hk4⟩
        obtain ⟨q1, q2, q3, q4, q5⟩ := HX.out
        have hs4 := hk4.size
        simp only [World.size_alloc] at hs4
        have hs5 : w2.heap.size < w4.heap.size := by omega
        have hh4 := q4.kept hk4 (by simp)
        have z0 := hh4.cell 0
        have z1 := hh4.cell 1
        have y0 := hh4.free 0
        have y1 := hh4.free 1
        simp at z0 z1
        have hkr : Kept [w2.heap.size] w4 ((w4.setCell ⟨w2.heap.size, 0, none⟩ (.int .i64 0)).setCell ⟨w2.heap.size, 1, none⟩ (.string ByteArray.empty)) := ((Kept.refl _ _).setCell (.inl (by simp)) _).setCell (.inl (by simp)) _
        have HY := Lib.hid (show Widening w g t cs o c cap ((x, d) :: rest) 0 (.pointer (some ⟨w2.heap.size, 0, none⟩)) (.bool false) ((w4.setCell ⟨w2.heap.size, 0, none⟩ (.int .i64 0)).setCell ⟨w2.heap.size, 1, none⟩ (.string ByteArray.empty)) from
          ⟨(q3.then_ (F := [c]) hk4 (by simp)).then_ hkr (by simp; omega), (q1.has.kept hk4 (by simp)).kept hkr (by simp; omega), w2.heap.size, done ++ [(x1, d1)], rfl, by omega,
            (q2.kept hk4 (by simp) (by simp)).kept hkr (by simp; omega) (fun c' e => by cases e; simp; omega), .inr ⟨rfl, HL1.out, rfl⟩⟩)
        clear q1 q2 q3 q4 q5 hk4 hh4 hkr
        go_wp2
        go_roundg 0
        case measure => simp
        case rel => exact HY.out
      · have hT := dvtake_some g t cs o x2 d2 rest2 cap c _ hlg2
        have HX := Lib.hid (And.intro hlg2 (And.intro hlw3 (And.intro hkw2 (And.intro hh3 hl2))))
        clear hlg2 hlw3 hkw2 hh3 hl2 hk2 hh2 hP
        go_wp2_with fail
        refine hT.mono ?_
        rintro e w4 ⟨rfl, hl4, hk4⟩
        obtain ⟨q1, q2, q3, q4, q5⟩ := HX.out
        have hs4 := hk4.size
        simp only [World.size_alloc] at hs4
        have hs5 : w2.heap.size < w4.heap.size := by omega
        have hh4 := q4.kept hk4 (by simp; omega)
        have z0 := hh4.cell 0
        have z1 := hh4.cell 1
        have y0 := hh4.free 0
        have y1 := hh4.free 1
        simp at z0 z1
        have hkr : Kept [w2.heap.size] w4 ((w4.setCell ⟨w2.heap.size, 0, none⟩ (.int .i64 x2)).setCell ⟨w2.heap.size, 1, none⟩ (.string d2)) := ((Kept.refl _ _).setCell (.inl (by simp)) _).setCell (.inl (by simp)) _
        have HY := Lib.hid (show Widening w g t cs o c cap ((x, d) :: rest) (rest2.length + 1) (.pointer (some ⟨w2.heap.size, 0, none⟩)) (.bool true) ((w4.setCell ⟨w2.heap.size, 0, none⟩ (.int .i64 x2)).setCell ⟨w2.heap.size, 1, none⟩ (.string d2)) from
          ⟨(q3.trans hk4).then_ hkr (by simp; omega), hl4.has.kept hkr (by simp; omega), w2.heap.size, done ++ [(x1, d1)], rfl, by omega,
            (q2.kept hk4 (by simp; omega) (fun c' e => by cases e; simp; omega)).kept hkr (by simp; omega) (fun c' e => by cases e; simp; omega),
            .inl ⟨x2, d2, rest2, rfl, by simpa using (hh4.put 0 (.int .i64 x2)).put 1 (.string d2), by rw [← HL1.out]; simp, hl4.kept hkr (by simp; omega) (fun c' e => by cases e; simp; omega), rfl⟩⟩)
        clear q1 q2 q3 q4 q5 hk4 hl4 hh4 hkr
        go_wp2
        go_roundg (rest2.length + 1)
        case measure => simp
        case rel => exact HY.out
    · have hsw := hkw.size
      obtain ⟨hg0, hc0⟩ := H0.out
      have hhw := hlw.has
      have hwl := hhw.inside
      have k0 := hhw.cell 0
      have f0 := hhg.free o
      have k1 := hhg.cell o
      rw [H.out.cell] at k1
      simp at k0
      have hgl : g < wr.heap.size := by omega
      have HZ := Lib.hid (And.intro hkw (And.intro hhg hlw))
      clear hkw hhg hlw hhw
      go_wp2
      obtain ⟨q1, q2, q3⟩ := HZ.out
      obtain ⟨s6, r6, hc6⟩ := q3.full _ rfl
      refine bodyPost_end (results_none rfl _ _ _) rfl ⟨rfl, w.heap.size, Nat.le_refl _, (LineAt.repoint q2 H.out.off hc6 q3.le (by omega) (.cells #[] 72)).unalloc (by simpa [World.setCell] using hgl) (by simp [World.setCell]; omega), ?_⟩
      exact (q1.mono (by simp)).setCell (.inl (by simp)) _
end Go.Proofs.YthcpjpebahiikaaDoor

namespace Go.Proofs.YthcpjpebahiikaaDoor
open Go.RowKit Go.Lib

/-- How much room there is behind a put. -/
def roomed (l : List (Int × ByteArray)) (cap : Nat) : Nat := if l.length < cap then cap else max (2 * cap) 16

/-- What a put comes to. -/
def Puts (g : Nat) (t : TypeId) (cs : Array Value) (o : Nat) (l : List (Int × ByteArray)) (cap : Nat) (ch : Option Nat) (x : Int) (d : ByteArray) (w : World) (e : Ending) (w' : World) : Prop :=
  e = .returned (.tuple #[]) ∧ ∃ c', (ch = some c' ∨ w.heap.size ≤ c') ∧ LineAt w' g t (cs.setIfInBounds o (.chan (some c'))) o (l ++ [(x, d)]) (roomed l cap) (some c') ∧ Kept (g :: ch.toList) w w'

theorem set_same {cs : Array Value} {o : Nat} {v : Value} (h : cs[o]? = some v) : cs.setIfInBounds o v = cs := by
  apply Array.ext_getElem?
  intro i
  rw [Array.getElem?_setIfInBounds]
  split
  · rename_i e
    subst e
    have := (Array.getElem?_eq_some_iff.1 h).1
    simp [this] at h ⊢
    exact h.symm
  · rfl

set_option maxRecDepth 1000000 in
set_option maxHeartbeats 400000 in
/-- The first round finds no room, and widens; the second one puts. -/
theorem put_full (g : Nat) (t : TypeId) (cs : Array Value) (o : Nat) (x : Int) (d : ByteArray) (l : List (Int × ByteArray)) (cap cap' : Nat) (ch : Option Nat) (w : World) (h : LineAt w g t cs o l cap ch) (hfull : cap ≤ l.length) (hlt : l.length < cap')
    (hw : ∀ w1, Kept [] w w1 → Calls Tryd.prog 53 #[.pointer (some ⟨g, o, none⟩)] w1 fun e w' => e = .returned (.tuple #[]) ∧ ∃ c', w1.heap.size ≤ c' ∧ LineAt w' g t (cs.setIfInBounds o (.chan (some c'))) o l cap' (some c') ∧ Kept (g :: ch.toList) w1 w') :
    Calls Tryd.prog 35 #[.pointer (some ⟨g, o, none⟩), .agg #[.int .i64 x, .string d]] w fun e w' => e = .returned (.tuple #[]) ∧ ∃ c', w.heap.size ≤ c' ∧ LineAt w' g t (cs.setIfInBounds o (.chan (some c'))) o (l ++ [(x, d)]) cap' (some c') ∧ Kept (g :: ch.toList) w w' := by
  have hcell : w.cell? ⟨g, o, none⟩ = some (.chan ch) := (h.has.cell o).trans h.cell
  have hgl := h.has.inside
  have hk0 : Kept [] w (w.alloc (.cells #[.int .i64 x, .string d] 72)) := (Kept.refl _ _).alloc _
  have HW := Lib.hid (hw _ hk0)
  have H := Lib.hid h
  have H1 := Lib.hid (h.kept hk0 (by simp) (by simp))
  have HK0 := Lib.hid hk0
  have hm := Has.made w 72 #[.int .i64 x, .string d]
  have HM := Lib.hid hm
  clear h hw hk0 hm
  refine calls_of_wn Tryd.func35 rfl ?_
  simp only [Tryd.ntmps35, List.size_toArray, List.length_cons, List.length_nil, Nat.reduceAdd, Nat.reduceSub, Array.replicate_succ,
     Array.replicate_zero, List.push_toArray, List.append_toArray, List.nil_append, List.cons_append]
  refine wn_seq (wn_of_wp ?_)
  go_wp2
  refine wn_block (wn_loop 2 ?_)
  refine wn_block (wn_seq (wn_of_wp ?_))
  go_wp2
  rcases ch with _ | c
  · refine wn_seq (wn_comm (cases := #[Conc.scaseNil (.agg #[.int .i64 x, .string d]) (.agg #[.int .i64 0, .string { data := #[] }])]) (blocking := false) (shape := .select) (w1 := w.alloc (.cells #[.int .i64 x, .string d] 72))
      (v := .tuple #[goInt (-1), .bool false]) (w2 := w.alloc (.cells #[.int .i64 x, .string d] 72)) rfl (by simp [go_sem, execOp, Conc.scaseNil, Act.eval]) (fun fr cs es hh => Conc.step_lone_select_send_nil hh) ?_)
    go_wp2
    refine wn_block (wn_cond rfl (wn_of_wp ?_))
    go_wp2_with fail
    refine HW.out.mono ?_
    rintro e w1 ⟨rfl, c', hc', hl1, hk1⟩
    have hs1 := hk1.size
    simp only [World.size_alloc] at hs1 hc'
    have hm1 := HM.out.kept hk1 (by simp; omega)
    have HL := Lib.hid hl1
    have HK := Lib.hid hk1
    have HM1 := Lib.hid hm1
    clear hl1 hk1 hm1
    go_wp2
    have hl1 := HL.out
    have hm1 := HM1.out
    have hcell1 : w1.cell? ⟨g, o, none⟩ = some (.chan (some c')) := (hl1.has.cell o).trans hl1.cell
    have m0 := hm1.cell 0
    have m1 := hm1.cell 1
    simp at m0 m1
    obtain ⟨s2, r2, hc2⟩ := hl1.full _ rfl
    have HC2 := Lib.hid hc2
    clear hl1 hm1 hc2
    refine wn_block (wn_seq (wn_of_wp ?_))
    go_wp2
    have HF := Lib.hid (HL.out.turned (l' := l ++ [(x, d)]) (s := s2 + 1) (r := r2) (Kept.refl [] w1) (by simp; omega))
    obtain ⟨w2, hw2⟩ : ∃ w2, w2 = w1.setChan c' cap' (((l ++ [(x, d)]).map wv).toArray) false (s2 + 1) r2 false := ⟨_, rfl⟩
    refine wn_seq (wn_comm (cases := #[Conc.scase c' (.agg #[.int .i64 x, .string d]) (.agg #[.int .i64 0, .string { data := #[] }])]) (blocking := false) (shape := .select) (w1 := w1)
      (v := .tuple #[goInt 0, .bool false]) (w2 := w2) rfl (by simp [go_sem, execOp, Conc.scase, Act.eval]) ?_ ?_)
    · intro fr cs es hh
      have h9 := Conc.step_lone_select_send_room hh HC2.out (by simpa using hlt)
      rw [h9, hw2]
      simp [wv]
    have HF2 := Lib.hid HF.out
    rw [← hw2] at HF2
    clear hw2
    go_wp2
    refine wn_block (wn_cond rfl (wn_of_wp ?_))
    go_wp2
    exact bodyPost_ret (results_none rfl _ _ _) rfl ⟨rfl, c', by omega, HF2.out.1, ((HK0.out.mono (by simp)).trans HK.out).then_ HF2.out.2 (by simp; omega)⟩
  · have hcl : c < w.heap.size := by
      obtain ⟨s1, r1, h1⟩ := H.out.full c rfl
      exact (Array.getElem?_eq_some_iff.1 h1).1
    refine wn_seq (wn_comm (cases := #[Conc.scase c (.agg #[.int .i64 x, .string d]) (.agg #[.int .i64 0, .string { data := #[] }])]) (blocking := false) (shape := .select) (w1 := w.alloc (.cells #[.int .i64 x, .string d] 72))
      (v := .tuple #[goInt (-1), .bool false]) (w2 := w.alloc (.cells #[.int .i64 x, .string d] 72)) rfl (by simp [go_sem, execOp, Conc.scase, Act.eval]) (fun fr cs es hh => ?_) ?_)
    · obtain ⟨s1, r1, h1⟩ := H1.out.full c rfl
      exact Conc.step_lone_select_send_full hh h1 (by simpa using hfull)
    go_wp2
    refine wn_block (wn_cond rfl (wn_of_wp ?_))
    go_wp2_with fail
    refine HW.out.mono ?_
    rintro e w1 ⟨rfl, c', hc', hl1, hk1⟩
    have hs1 := hk1.size
    simp only [World.size_alloc] at hs1 hc'
    have hm1 := HM.out.kept hk1 (by simp; omega)
    have HL := Lib.hid hl1
    have HK := Lib.hid hk1
    have HM1 := Lib.hid hm1
    clear hl1 hk1 hm1
    go_wp2
    have hl1 := HL.out
    have hm1 := HM1.out
    have hcell1 : w1.cell? ⟨g, o, none⟩ = some (.chan (some c')) := (hl1.has.cell o).trans hl1.cell
    have m0 := hm1.cell 0
    have m1 := hm1.cell 1
    simp at m0 m1
    obtain ⟨s2, r2, hc2⟩ := hl1.full _ rfl
    have HC2 := Lib.hid hc2
    clear hl1 hm1 hc2
    refine wn_block (wn_seq (wn_of_wp ?_))
    go_wp2
    have HF := Lib.hid (HL.out.turned (l' := l ++ [(x, d)]) (s := s2 + 1) (r := r2) (Kept.refl [] w1) (by simp; omega))
    obtain ⟨w2, hw2⟩ : ∃ w2, w2 = w1.setChan c' cap' (((l ++ [(x, d)]).map wv).toArray) false (s2 + 1) r2 false := ⟨_, rfl⟩
    refine wn_seq (wn_comm (cases := #[Conc.scase c' (.agg #[.int .i64 x, .string d]) (.agg #[.int .i64 0, .string { data := #[] }])]) (blocking := false) (shape := .select) (w1 := w1)
      (v := .tuple #[goInt 0, .bool false]) (w2 := w2) rfl (by simp [go_sem, execOp, Conc.scase, Act.eval]) ?_ ?_)
    · intro fr cs es hh
      have h9 := Conc.step_lone_select_send_room hh HC2.out (by simpa using hlt)
      rw [h9, hw2]
      simp [wv]
    have HF2 := Lib.hid HF.out
    rw [← hw2] at HF2
    clear hw2
    go_wp2
    refine wn_block (wn_cond rfl (wn_of_wp ?_))
    go_wp2
    exact bodyPost_ret (results_none rfl _ _ _) rfl ⟨rfl, c', by omega, HF2.out.1, ((HK0.out.mono (by simp)).trans HK.out).then_ HF2.out.2 (by simp; omega)⟩

theorem LineAt.cap_zero {w : World} {g : Nat} {t : TypeId} {cs : Array Value} {o : Nat} {l : List (Int × ByteArray)} {cap : Nat} (h : LineAt w g t cs o l cap none) : l = [] ∧ cap = 0 := h.nil_ rfl

theorem dvput_any (g : Nat) (t : TypeId) (cs : Array Value) (o : Nat) (x : Int) (d : ByteArray) (l : List (Int × ByteArray)) (cap : Nat) (ch : Option Nat) (w : World) (h : LineAt w g t cs o l cap ch) (hcap : cap ≤ 100000000000) :
    Calls Tryd.prog 35 #[.pointer (some ⟨g, o, none⟩), .agg #[.int .i64 x, .string d]] w (Puts g t cs o l cap ch x d w) := by
  by_cases hr : l.length < cap
  · cases ch with
    | none => obtain ⟨rfl, rfl⟩ := h.nil_ rfl; simp at hr
    | some c =>
      refine (put_room g t cs o x d l cap c w h hr).mono ?_
      rintro e w1 ⟨rfl, hl1, hk1⟩
      refine ⟨rfl, c, .inl rfl, ?_, hk1.mono (by simp)⟩
      rw [set_same h.cell]
      unfold roomed
      rw [if_pos hr]
      exact hl1
  · have hle := h.le
    cases ch with
    | none =>
      obtain ⟨rfl, rfl⟩ := h.nil_ rfl
      refine (put_full g t cs o x d [] 0 16 none w h (by simp) (by simp) (fun w1 hk => ?_)).mono ?_
      · refine (widen_nil g t cs o w1 (h.kept hk (by simp) (by simp))).mono ?_
        rintro e w2 ⟨rfl, c', h1, h2, h3⟩
        exact ⟨rfl, c', h1, h2, h3.mono (by simp)⟩
      · rintro e w2 ⟨rfl, c', h1, h2, h3⟩
        exact ⟨rfl, c', .inr h1, h2, h3⟩
    | some c =>
      have h16 := h.wide c rfl
      refine (put_full g t cs o x d l cap (2 * cap) (some c) w h (by omega) (by omega) (fun w1 hk => ?_)).mono ?_
      · refine (widen_some g t cs o l cap c w1 (h.kept hk (by simp) (by simp)) (by intro e; subst e; simp at hr; omega) hcap).mono ?_
        rintro e w2 ⟨rfl, c', h1, h2, h3⟩
        exact ⟨rfl, c', h1, h2, h3.mono (by simp)⟩
      · rintro e w2 ⟨rfl, c', h1, h2, h3⟩
        refine ⟨rfl, c', .inr h1, ?_, h3⟩
        unfold roomed
        rw [if_neg hr, Nat.max_eq_left (by omega)]
        exact h2
theorem LineAt.chlt {w : World} {g : Nat} {t : TypeId} {cs : Array Value} {o : Nat} {l : List (Int × ByteArray)} {cap c : Nat} (h : LineAt w g t cs o l cap (some c)) : c < w.heap.size := by
  obtain ⟨s1, r1, h1⟩ := h.full c rfl
  exact (Array.getElem?_eq_some_iff.1 h1).1
end Go.Proofs.YthcpjpebahiikaaDoor
