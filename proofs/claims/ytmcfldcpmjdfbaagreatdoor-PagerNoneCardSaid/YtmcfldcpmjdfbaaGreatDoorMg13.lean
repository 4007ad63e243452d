/-
  Walks: Write.
-/
import Derived.Test.YtmcfldcpmjdfbaaGreatDoorMg12
namespace Go.Proofs.YtmcfldcpmjdfbaaGreatDoor
open Go.RowKit Go.Lib

theorem DevMem.setPage {w : World} {p : Nat} {s : DevS} {g n c : Nat} {sv : Value} {ch : Option Nat} (h : DevMem w p s (.slice (some ⟨g, 0, none⟩) n c) sv ch) (j : Nat) (x : ByteArray) :
    DevMem (w.setCell ⟨g, j, none⟩ (.string x)) p { s with pages := s.pages.set j x } (.slice (some ⟨g, 0, none⟩) n c) sv ch ∧ Kept [g] w (w.setCell ⟨g, j, none⟩ (.string x)) := by
  obtain ⟨n1, n2, n3⟩ := nodup_devBlocks.1 h.nodup
  have hg := n1 g rfl
  have hk : Kept [g] w (w.setCell ⟨g, j, none⟩ (.string x)) := (Kept.refl _ _).setCell (.inl (by simp)) _
  have hr := h.rowp
  have hn : s.pages.length = n := by
    rcases hr.2 with ⟨e, _⟩ | ⟨_, _, _, e, _⟩
    · cases e
    · simp at e
      exact e.2.1.symm
  rw [hn] at hr
  obtain ⟨hst, _⟩ := hr.stored j (.string x)
  refine ⟨⟨h.line.kept hk (by simpa using fun e => hg.1 e.symm) (fun c2 e => by simp; intro e2; subst e2; exact hg.2.2 e), ?_, row_kept h.rows hk (fun k e => by simp; intro e2; subst e2; exact hg.2.1 e), h.nodup⟩, hk⟩
  have e : ({ s with pages := s.pages.set j x } : DevS).pages.map Value.string = (s.pages.map Value.string).set j (.string x) := by simp [List.map_set]
  rw [e]
  simpa [hn] using hst

theorem DevMem.setSync {w : World} {p : Nat} {s : DevS} {g n c : Nat} {pv : Value} {ch : Option Nat} (h : DevMem w p s pv (.slice (some ⟨g, 0, none⟩) n c) ch) (j : Nat) (x : ByteArray) :
    DevMem (w.setCell ⟨g, j, none⟩ (.string x)) p { s with synced := s.synced.set j x } pv (.slice (some ⟨g, 0, none⟩) n c) ch ∧ Kept [g] w (w.setCell ⟨g, j, none⟩ (.string x)) := by
  obtain ⟨n1, n2, n3⟩ := nodup_devBlocks.1 h.nodup
  have hg := n2 g rfl
  have hk : Kept [g] w (w.setCell ⟨g, j, none⟩ (.string x)) := (Kept.refl _ _).setCell (.inl (by simp)) _
  have hr := h.rows
  have hn : s.synced.length = n := by
    rcases hr.2 with ⟨e, _⟩ | ⟨_, _, _, e, _⟩
    · cases e
    · simp at e
      exact e.2.1.symm
  rw [hn] at hr
  obtain ⟨hst, _⟩ := hr.stored j (.string x)
  refine ⟨⟨h.line.kept hk (by simpa using fun e => hg.1 e.symm) (fun c2 e => by simp; intro e2; subst e2; exact hg.2 e), row_kept h.rowp hk (fun k e => by simp; intro e2; subst e2; exact (n1 _ e).2.1 rfl), ?_, h.nodup⟩, hk⟩
  have e : ({ s with synced := s.synced.set j x } : DevS).synced.map Value.string = (s.synced.map Value.string).set j (.string x) := by simp [List.map_set]
  rw [e]
  simpa [hn] using hst

theorem DevMem.newLine {w w' : World} {p : Nat} {s : DevS} {pv sv : Value} {ch : Option Nat} (h : DevMem w p s pv sv ch) {c' : Nat} (hc : ch = some c' ∨ w.heap.size ≤ c') {l : List (Int × ByteArray)} {cap : Nat}
    (hl : LineAt w' p 106 ((devCells s pv sv ch).setIfInBounds 5 (.chan (some c'))) 5 l cap (some c')) (hk : Kept (p :: ch.toList) w w') :
    DevMem w' p { s with line := l, cap := cap } pv sv (some c') ∧ Goes (devBlocks p pv sv ch) w (devBlocks p pv sv (some c')) w' := by
  obtain ⟨n1, n2, n3⟩ := nodup_devBlocks.1 h.nodup
  have hlt := h.lt
  have hd : ∀ k, (pv.ownBlock = some k ∨ sv.ownBlock = some k) → k ≠ c' := by
    intro k hk2 e
    subst e
    rcases hc with e | e
    · subst e
      rcases hk2 with h1 | h1
      · exact (n1 k h1).2.2 rfl
      · exact (n2 k h1).2 rfl
    · have : k < w.heap.size := hlt k (mem_devBlocks.2 (by rcases hk2 with h1 | h1 <;> simp [h1]))
      omega
  have hpc : p ≠ c' := by
    intro e
    rcases hc with e2 | e2
    · exact n3 (e ▸ e2)
    · have := hlt p (mem_devBlocks.2 (.inl rfl))
      omega
  refine ⟨⟨hl, row_kept h.rowp hk (fun g e => ?_), row_kept h.rows hk (fun g e => ?_), nodup_devBlocks.2 ⟨fun k e => ⟨(n1 k e).1, (n1 k e).2.1, fun e2 => hd k (.inl e) (Option.some.inj e2).symm⟩, fun k e => ⟨(n2 k e).1, fun e2 => hd k (.inr e) (Option.some.inj e2).symm⟩, fun e => hpc (Option.some.inj e).symm⟩⟩,
    hk.mono (fun k hk2 => .inl (mem_devBlocks.2 (by simp at hk2; rcases hk2 with e | e <;> simp [e]))), fun k hk2 => ?_⟩
  · simp only [List.mem_cons, Option.mem_toList, not_or]
    exact ⟨(n1 g e).1, (n1 g e).2.2⟩
  · simp only [List.mem_cons, Option.mem_toList, not_or]
    exact ⟨(n2 g e).1, (n2 g e).2⟩
  · rcases mem_devBlocks.1 hk2 with e | e | e | e
    · exact .inl (mem_devBlocks.2 (.inl e))
    · exact .inl (mem_devBlocks.2 (.inr (.inl e)))
    · exact .inl (mem_devBlocks.2 (.inr (.inr (.inl e))))
    · obtain rfl := Option.some.inj e
      rcases hc with e2 | e2
      · exact .inl (mem_devBlocks.2 (.inr (.inr (.inr e2))))
      · exact .inr e2

/-- A write is done: it waits. -/
def wroteS (s : DevS) (n : Int) (d : ByteArray) : DevS := { s with pages := s.pages.set n.toNat d, line := s.line ++ [(n, d)], cap := roomed s.line s.cap }
theorem wrote_ok {s : DevS} (h : DevOK s) {n : Int} {d : ByteArray} (hf : faultE s n d = 0) : DevOK (wroteS s n d) := by
  have hn : 0 ≤ n ∧ n < s.pages.length ∧ d.size = 256 := by
    unfold faultE at hf
    split at hf
    · split at hf
      · exact ⟨by omega, by omega, by assumption⟩
      · cases hf
    · cases hf
  refine ⟨h.most, h.fuse, by simp [wroteS, h.len], by simp [wroteS, h.few], fun x hx => ?_, h.synced, fun x hx => ?_⟩
  · rcases List.mem_or_eq_of_mem_set hx with h1 | h1
    · exact h.pages x h1
    · rw [h1]; exact hn.2.2
  · simp only [wroteS, List.length_set]
    rcases List.mem_append.1 hx with h1 | h1
    · exact h.line x h1
    · simp at h1
      subst h1
      exact ⟨hn.1, hn.2.1, hn.2.2⟩
theorem powS_ok {s : DevS} (h : DevOK s) : DevOK (powS s) := by
  unfold powS
  split
  · split
    · exact h
    · have := h.fuse
      exact ⟨h.most, ⟨by simp; omega, by simp; omega⟩, h.len, h.few, h.pages, h.synced, h.line⟩
  · exact h

/-- What Write tells, and leaves. -/
def writeE (s : DevS) (n : Int) (d : ByteArray) : Int := if s.on = true then (if (powS s).on = true then faultE (powS s) n d else 14) else 14
def writeS (s : DevS) (n : Int) (d : ByteArray) : DevS := if s.on = true then (if faultE (powS s) n d = 0 then wroteS (powS s) n d else powS s) else s

set_option maxHeartbeats 400000 in
theorem write_nil (n : Int) (d : ByteArray) (w : World) : Calls Tryz.prog 23 #[.pointer none, .int .i64 n, .string d] w fun e w' => e = .returned (.int .i64 14) ∧ w = w' := by
  go_enter Tryz.func23, Tryz.ntmps23
  go_wp2_with (go_at_call 53; refine (on_nil _).mono ?_; rintro e w' ⟨rfl, rfl⟩)
  go_ret
  exact ⟨rfl, rfl⟩

set_option maxHeartbeats 400000 in
theorem write_off (p : Nat) (s : DevS) (F : List Nat) (n : Int) (d : ByteArray) (w : World) (h : DevAt w p s F) (hoff : s.on = false) :
    Calls Tryz.prog 23 #[.pointer (some ⟨p, 0, none⟩), .int .i64 n, .string d] w fun e w' => e = .returned (.int .i64 14) ∧ w = w' := by
  have hon := on_any p s F w h
  rw [hoff] at hon
  clear h hoff
  go_enter Tryz.func23, Tryz.ntmps23
  go_wp2_with (go_at_call 53; refine hon.mono ?_; rintro e w' ⟨rfl, rfl⟩)
  go_ret
  exact ⟨rfl, rfl⟩

set_option maxRecDepth 1000000 in
set_option maxHeartbeats 400000 in
/-- A write that would not be done. -/
theorem write_bad (p : Nat) (s : DevS) (F : List Nat) (n : Int) (d : ByteArray) (w : World) (h : DevAt w p s F) (hon : s.on = true) (hf : faultE (powS s) n d ≠ 0) :
    Calls Tryz.prog 23 #[.pointer (some ⟨p, 0, none⟩), .int .i64 n, .string d] w (DevTo p (powS s) (.int .i64 (if (powS s).on = true then faultE (powS s) n d else 14)) F w) := by
  have ho := on_any p s F w h
  rw [hon] at ho
  have hp := powered_any p s F w h
  have hm := h.mem
  generalize powS s = s1 at *
  generalize hb : s1.on = b at *
  have HB := Lib.hid hb
  generalize hE : faultE s1 n d = E at *
  have HE := Lib.hid hE
  have hne : (E == 0) = false := by simpa using hf
  clear h hon hb hE hf
  cases b
  · rw [if_neg (by decide)]
    go_enter Tryz.func23, Tryz.ntmps23
    go_wp2_with (go_at_call 53; refine ho.mono ?_; rintro e w' ⟨rfl, rfl⟩)
    refine hp.mono ?_
    rintro e w1 ⟨rfl, hd, hk⟩
    have hfa := fault_any p s1 F n d w1 hd
    rw [HE.out] at hfa
    have HX := Lib.hid (And.intro hd hk)
    clear hd hk hp
    go_wp2_with (go_at_call 55; refine hfa.mono ?_; rintro e w' ⟨rfl, rfl⟩)
    go_ret
    exact ⟨rfl, F, HX.out.1, goes_of_kept HX.out.2 (by simpa using hm)⟩
  · rw [if_pos rfl]
    go_enter Tryz.func23, Tryz.ntmps23
    go_wp2_with (go_at_call 53; refine ho.mono ?_; rintro e w' ⟨rfl, rfl⟩)
    refine hp.mono ?_
    rintro e w1 ⟨rfl, hd, hk⟩
    have hfa := fault_any p s1 F n d w1 hd
    rw [HE.out] at hfa
    have HX := Lib.hid (And.intro hd hk)
    clear hd hk hp
    go_wp2_with (go_at_call 55; refine hfa.mono ?_; rintro e w' ⟨rfl, rfl⟩)
    go_ret
    exact ⟨rfl, F, HX.out.1, goes_of_kept HX.out.2 (by simpa using hm)⟩

set_option maxRecDepth 1000000 in
set_option maxHeartbeats 800000 in
/-- A write that is done, or at which the power fails. -/
theorem write_ok (p : Nat) (s : DevS) (F : List Nat) (n : Int) (d : ByteArray) (w : World) (h : DevAt w p s F) (hon : s.on = true) (hf : faultE (powS s) n d = 0) (hcap : s.cap ≤ 100000000000) :
    Calls Tryz.prog 23 #[.pointer (some ⟨p, 0, none⟩), .int .i64 n, .string d] w (DevTo p (wroteS (powS s) n d) (.int .i64 (if (powS s).on = true then 0 else 14)) F w) := by
  have ho := on_any p s F w h
  rw [hon] at ho
  have hp := powered_any p s F w h
  have hm := h.mem
  have hcap1 : (powS s).cap ≤ 100000000000 := by
    have : (powS s).cap = s.cap := by unfold powS; split <;> first | rfl | (split <;> rfl)
    omega
  generalize powS s = s1 at *
  have hwk := fun hok => wrote_ok (s := s1) hok hf
  have hn : 0 ≤ n ∧ n < s1.pages.length ∧ d.size = 256 := by
    unfold faultE at hf
    split at hf
    · split at hf
      · exact ⟨by omega, by omega, by assumption⟩
      · cases hf
    · cases hf
  obtain ⟨hn0, hn1, hds⟩ := hn
  obtain ⟨k, rfl⟩ : ∃ k : Nat, n = k := ⟨n.toNat, by omega⟩
  have hcl := clone_any2 d (by omega)
  generalize hb : s1.on = b at *
  have HF := Lib.hid hf
  have HWK := Lib.hid hwk
  obtain ⟨a, ha⟩ : ∃ a : Int, (if b = true then 0 else 14) = a := ⟨_, rfl⟩
  rw [ha]
  have HA := Lib.hid ha
  clear h hon hb hf hds hwk ha
  go_enter Tryz.func23, Tryz.ntmps23
  go_wp2_with (go_at_call 53; refine ho.mono ?_; rintro e w' ⟨rfl, rfl⟩)
  refine hp.mono ?_
  rintro e w1 ⟨rfl, hd, hk⟩
  have hfa := fault_any p s1 F k d w1 hd
  rw [HF.out] at hfa
  have HX := Lib.hid (And.intro hd hk)
  clear hd hk hp
  go_wp2_with (go_at_call 55; refine hfa.mono ?_; rintro e w' ⟨rfl, rfl⟩)
  refine (hcl _).mono ?_
  rintro e w2 ⟨rfl, hb2⟩
  obtain ⟨hd2, hg2⟩ := HX.out.1.goes hb2
  have hdok := hd2.ok
  obtain ⟨pv, sv, ch, hmem, hF⟩ := hd2.mem_
  obtain ⟨A1, cc1, hpv, -, hcells⟩ := drow_form hmem.rowp
  have hkl : k < s1.pages.length := by omega
  obtain ⟨g, hA, hcg⟩ := hcells k _ (by rw [List.getElem?_map, List.getElem?_eq_getElem hkl]; rfl)
  subst hA
  subst hpv
  have c3 : w2.cell? ⟨p, 3, none⟩ = some (.slice (some ⟨g, 0, none⟩) s1.pages.length cc1) := hmem.line.has.cell 3
  have hfg := World.ownsRow.frozenAt hmem.rowp k
  obtain ⟨hm3, hk3⟩ := hmem.setPage k d
  have hpu := dvput_any p 106 _ 5 k d _ _ ch _ hm3.line hcap1
  have hsp : p < w2.heap.size := hmem.line.has.inside
  have HY := Lib.hid (And.intro hdok (And.intro hF (And.intro hm3 (And.intro hk3 hg2))))
  generalize hx : s1.pages[k] = x at *
  clear hd2 hg2 hdok hmem hF hcells hm3 hk3 hb2 hx hfa hkl hcl ho
  go_wp2_with fail
  refine hpu.mono ?_
  rintro e w3 ⟨rfl, c', hc', hl3, hk4⟩
  obtain ⟨a1, a2, a3, a4, a5⟩ := HY.out
  have hc2 : ch = some c' ∨ (w2.setCell ⟨g, k, none⟩ (.string d)).heap.size ≤ c' := hc'
  have hnl := a3.newLine hc2 hl3 hk4
  have hin : g ∈ F := by rw [a2]; exact mem_devBlocks.2 (.inr (.inl rfl))
  have hfin : DevTo p (wroteS s1 k d) (.int .i64 a) F w (.returned (.int .i64 a)) w3 := by
    refine ⟨rfl, _, hnl.1.at_ (HWK.out a1), ?_⟩
    have g1 : Goes F w F w1 := goes_of_kept HX.out.2 (by simpa using hm)
    have g3 : Goes F w2 F (w2.setCell ⟨g, k, none⟩ (.string d)) := goes_of_kept a4 (by simpa using hin)
    refine (g1.trans a5).trans (g3.trans ?_)
    rw [a2]
    exact hnl.2
  have HFIN := Lib.hid hfin
  have HA2 := Lib.hid HA.out
  clear a1 a2 a3 a4 a5 hc2 hnl hin hfin hc' hl3 hk4 hpu
  cases b
  · have e : a = 14 := by rw [← HA2.out]; rfl
    subst e
    go_wp2
    go_ret
    exact HFIN.out
  · have e : a = 0 := by rw [← HA2.out]; rfl
    subst e
    go_wp2
    go_ret
    exact HFIN.out

theorem write_any (p : Nat) (s : DevS) (F : List Nat) (n : Int) (d : ByteArray) (w : World) (h : DevAt w p s F) (hcap : s.cap ≤ 100000000000) :
    Calls Tryz.prog 23 #[.pointer (some ⟨p, 0, none⟩), .int .i64 n, .string d] w (DevTo p (writeS s n d) (.int .i64 (writeE s n d)) F w) := by
  unfold writeS writeE
  by_cases hon : s.on = true
  · rw [if_pos hon, if_pos hon]
    by_cases hf : faultE (powS s) n d = 0
    · rw [if_pos hf, hf]
      exact write_ok p s F n d w h hon hf hcap
    · rw [if_neg hf]
      exact write_bad p s F n d w h hon hf
  · rw [if_neg hon, if_neg hon]
    refine (write_off p s F n d w h (by simpa using hon)).mono ?_
    rintro e w' ⟨rfl, rfl⟩
    exact ⟨rfl, F, h, Goes.refl _ _⟩
end Go.Proofs.YtmcfldcpmjdfbaaGreatDoor
