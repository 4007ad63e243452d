/-
  A device in memory: its lists of pages turn. Walks: New, Grow. Walks: Grow. Walks: Write.
-/
import Derived.Test.YthcpjpebahiikaaDoorMg25
import Derived.Test.YthcpjpebahiikaaDoorMg27
import Derived.Deep.LoopGhost
namespace Go.Proofs.YthcpjpebahiikaaDoor
open Go.RowKit Go.Lib

/-- The memory of a device: its lists pv and sv, its line's channel ch. -/
structure DevMem (w : World) (p : Nat) (s : DevS) (pv sv : Value) (ch : Option Nat) : Prop where
  line : LineAt w p 62 (devCells s pv sv ch) 5 s.line s.cap ch
  rowp : w.ownsRow 0 9 1 pv s.pages.length (s.pages.map Value.string)
  rows : w.ownsRow 0 9 1 sv s.synced.length (s.synced.map Value.string)
  nodup : (devBlocks p pv sv ch).Nodup

theorem DevAt.mem_ {w : World} {p : Nat} {s : DevS} {F : List Nat} (h : DevAt w p s F) : ∃ pv sv ch, DevMem w p s pv sv ch ∧ F = devBlocks p pv sv ch := by
  obtain ⟨pv, sv, ch, hl, hp, hs, rfl, hn, _⟩ := h
  exact ⟨pv, sv, ch, ⟨hl, hp, hs, hn⟩, rfl⟩
theorem DevMem.at_ {w : World} {p : Nat} {s : DevS} {pv sv : Value} {ch : Option Nat} (h : DevMem w p s pv sv ch) (ho : DevOK s) : DevAt w p s (devBlocks p pv sv ch) :=
  ⟨pv, sv, ch, h.line, h.rowp, h.rows, rfl, h.nodup, ho⟩

theorem mem_devBlocks {p k : Nat} {pv sv : Value} {ch : Option Nat} : k ∈ devBlocks p pv sv ch ↔ k = p ∨ pv.ownBlock = some k ∨ sv.ownBlock = some k ∨ ch = some k := by
  simp [devBlocks]
theorem nodup_devBlocks {p : Nat} {pv sv : Value} {ch : Option Nat} : (devBlocks p pv sv ch).Nodup ↔ (∀ k, pv.ownBlock = some k → k ≠ p ∧ sv.ownBlock ≠ some k ∧ ch ≠ some k) ∧ (∀ k, sv.ownBlock = some k → k ≠ p ∧ ch ≠ some k) ∧ ch ≠ some p := by
  unfold devBlocks
  rcases pv.ownBlock with _ | a <;> rcases sv.ownBlock with _ | b <;> rcases ch with _ | c <;> simp <;> omega

theorem DevMem.lt {w : World} {p : Nat} {s : DevS} {pv sv : Value} {ch : Option Nat} (h : DevMem w p s pv sv ch) : ∀ k ∈ devBlocks p pv sv ch, k < w.heap.size := by
  intro k hk
  rcases mem_devBlocks.1 hk with rfl | hk | hk | hk
  · exact h.line.has.inside
  · exact (World.ownsRow.lt h.rowp k hk).2
  · exact (World.ownsRow.lt h.rows k hk).2
  · subst hk
    exact h.line.chlt

theorem DevMem.newPages {w w1 : World} {p : Nat} {s : DevS} {pv sv v1 : Value} {ch : Option Nat} (h : DevMem w p s pv sv ch) (xs : List ByteArray) (h1 : w1.ownsRow 0 9 1 v1 xs.length (xs.map Value.string))
    (h2 : v1.ownBlock = pv.ownBlock ∧ pv.ownBlock ≠ none ∨ ∃ k, v1.ownBlock = some k ∧ w.heap.size < k) (h3 : w.grownBy w1 pv.ownBlock) :
    DevMem (w1.setCell ⟨p, 3, none⟩ v1) p { s with pages := xs } v1 sv ch ∧ Goes (devBlocks p pv sv ch) w (devBlocks p v1 sv ch) (w1.setCell ⟨p, 3, none⟩ v1) := by
  obtain ⟨n1, n2, n3⟩ := nodup_devBlocks.1 h.nodup
  have hlt := h.lt
  have hplt : p < w.heap.size := hlt p (mem_devBlocks.2 (.inl rfl))
  have hk1 : Kept (devBlocks p pv sv ch) w w1 := Kept.of_grown h3 (fun k e => mem_devBlocks.2 (.inr (.inl e)))
  have hkp : Kept pv.ownBlock.toList w w1 := Kept.of_grown h3 (fun k e => by simpa using e)
  have hl1 : LineAt w1 p 62 (devCells s pv sv ch) 5 s.line s.cap ch := h.line.kept hkp (by simp; intro e; exact (n1 p e).1 rfl) (fun c e => by simp; intro e2; exact (n1 c e2).2.2 e)
  have hs1 := row_kept h.rows hkp (fun g e => by simp; intro e2; exact (n1 g e2).2.1 e)
  have hkq : Kept [p] w1 (w1.setCell ⟨p, 3, none⟩ v1) := (Kept.refl _ _).setCell (.inl (by simp)) _
  have hv1 : ∀ k, v1.ownBlock = some k → k ≠ p ∧ sv.ownBlock ≠ some k ∧ ch ≠ some k := by
    intro k hk
    rcases h2 with ⟨e, _⟩ | ⟨k2, e, hlt2⟩
    · exact n1 k (e ▸ hk)
    · rw [e] at hk
      obtain rfl := Option.some.inj hk
      refine ⟨by omega, fun e2 => ?_, fun e2 => ?_⟩
      · have := hlt k2 (mem_devBlocks.2 (.inr (.inr (.inl e2))))
        omega
      · have := hlt k2 (mem_devBlocks.2 (.inr (.inr (.inr e2))))
        omega
  refine ⟨⟨hl1.putOther 3 (by decide) v1, row_kept h1 hkq (fun g e => by simpa using (hv1 g e).1), row_kept hs1 hkq (fun g e => by simpa using (n2 g e).1), nodup_devBlocks.2 ⟨hv1, n2, n3⟩⟩, hk1.then_ hkq (fun i hi => .inl (mem_devBlocks.2 (.inl (by simpa using hi)))), fun k hk => ?_⟩
  rcases mem_devBlocks.1 hk with rfl | hk | hk | hk
  · exact .inl (mem_devBlocks.2 (.inl rfl))
  · rcases h2 with ⟨e, _⟩ | ⟨k2, e, hlt2⟩
    · exact .inl (mem_devBlocks.2 (.inr (.inl (e ▸ hk))))
    · rw [e] at hk
      obtain rfl := Option.some.inj hk
      exact .inr (by omega)
  · exact .inl (mem_devBlocks.2 (.inr (.inr (.inl hk))))
  · exact .inl (mem_devBlocks.2 (.inr (.inr (.inr hk))))

theorem DevMem.newSynced {w w1 : World} {p : Nat} {s : DevS} {pv sv v1 : Value} {ch : Option Nat} (h : DevMem w p s pv sv ch) (xs : List ByteArray) (h1 : w1.ownsRow 0 9 1 v1 xs.length (xs.map Value.string))
    (h2 : v1.ownBlock = sv.ownBlock ∧ sv.ownBlock ≠ none ∨ ∃ k, v1.ownBlock = some k ∧ w.heap.size < k) (h3 : w.grownBy w1 sv.ownBlock) :
    DevMem (w1.setCell ⟨p, 4, none⟩ v1) p { s with synced := xs } pv v1 ch ∧ Goes (devBlocks p pv sv ch) w (devBlocks p pv v1 ch) (w1.setCell ⟨p, 4, none⟩ v1) := by
  obtain ⟨n1, n2, n3⟩ := nodup_devBlocks.1 h.nodup
  have hlt := h.lt
  have hplt : p < w.heap.size := hlt p (mem_devBlocks.2 (.inl rfl))
  have hk1 : Kept (devBlocks p pv sv ch) w w1 := Kept.of_grown h3 (fun k e => mem_devBlocks.2 (.inr (.inr (.inl e))))
  have hkp : Kept sv.ownBlock.toList w w1 := Kept.of_grown h3 (fun k e => by simpa using e)
  have hl1 : LineAt w1 p 62 (devCells s pv sv ch) 5 s.line s.cap ch := h.line.kept hkp (by simp; intro e; exact (n2 p e).1 rfl) (fun c e => by simp; intro e2; exact (n2 c e2).2 e)
  have hp1 := row_kept h.rowp hkp (fun g e => by simp; exact (n1 g e).2.1)
  have hkq : Kept [p] w1 (w1.setCell ⟨p, 4, none⟩ v1) := (Kept.refl _ _).setCell (.inl (by simp)) _
  have hv1 : ∀ k, v1.ownBlock = some k → k ≠ p ∧ ch ≠ some k := by
    intro k hk
    rcases h2 with ⟨e, _⟩ | ⟨k2, e, hlt2⟩
    · exact n2 k (e ▸ hk)
    · rw [e] at hk
      obtain rfl := Option.some.inj hk
      refine ⟨by omega, fun e2 => ?_⟩
      have := hlt k2 (mem_devBlocks.2 (.inr (.inr (.inr e2))))
      omega
  have hv2 : ∀ k, pv.ownBlock = some k → k ≠ p ∧ v1.ownBlock ≠ some k ∧ ch ≠ some k := by
    intro k hk
    refine ⟨(n1 k hk).1, fun e2 => ?_, (n1 k hk).2.2⟩
    rcases h2 with ⟨e, _⟩ | ⟨k2, e, hlt2⟩
    · exact (n1 k hk).2.1 (e ▸ e2)
    · rw [e] at e2
      obtain rfl := Option.some.inj e2
      have := hlt k2 (mem_devBlocks.2 (.inr (.inl hk)))
      omega
  refine ⟨⟨hl1.putOther 4 (by decide) v1, row_kept hp1 hkq (fun g e => by simpa using (n1 g e).1), row_kept h1 hkq (fun g e => by simpa using (hv1 g e).1), nodup_devBlocks.2 ⟨hv2, hv1, n3⟩⟩, hk1.then_ hkq (fun i hi => .inl (mem_devBlocks.2 (.inl (by simpa using hi)))), fun k hk => ?_⟩
  rcases mem_devBlocks.1 hk with rfl | hk | hk | hk
  · exact .inl (mem_devBlocks.2 (.inl rfl))
  · exact .inl (mem_devBlocks.2 (.inr (.inl hk)))
  · rcases h2 with ⟨e, _⟩ | ⟨k2, e, hlt2⟩
    · exact .inl (mem_devBlocks.2 (.inr (.inr (.inl (e ▸ hk)))))
    · rw [e] at hk
      obtain rfl := Option.some.inj hk
      exact .inr (by omega)
  · exact .inl (mem_devBlocks.2 (.inr (.inr (.inr hk))))

/-- A device as New makes it. -/
def newS (n : Int) : DevS := { most := n, on := true, fuse := -1, pages := [], synced := [], line := [], cap := 0 }

set_option maxHeartbeats 400000 in
theorem new_bad (n : Int) (w : World) (h : n < 1 ∨ 3000 < n) : Calls Tryd.prog 11 #[.int .i64 n] w fun e w' => e = .returned (.tuple #[.pointer none, .int .i64 1]) ∧ w = w' := by
  by_cases h1 : n < 1
  · have hb : decide (n < 1) = true := by simpa using h1
    clear h
    go_enter Tryd.func11, Tryd.ntmps11
    go_wp2
    go_ret2
    exact ⟨rfl, rfl⟩
  · have hb : decide (n < 1) = false := by simpa using h1
    have h3 : 3000 < n := by omega
    clear h
    go_enter Tryd.func11, Tryd.ntmps11
    go_wp2
    go_ret2
    exact ⟨rfl, rfl⟩
set_option maxHeartbeats 400000 in
theorem new_ok (n : Int) (w : World) (h1 : 1 ≤ n) (h2 : n ≤ 3000) :
    Calls Tryd.prog 11 #[.int .i64 n] w fun e w' => e = .returned (.tuple #[.pointer (some ⟨w.heap.size, 0, none⟩), .int .i64 0]) ∧ DevAt w' w.heap.size (newS n) [w.heap.size] ∧ Below w.heap.size w w' := by
  have hb : decide (n < 1) = false := by simpa using h1
  have hD : DevAt (w.alloc (.cells #[.int .i64 n, .bool true, .int .i64 (-1), .slice none 0 0, .slice none 0 0, .chan none] 62)) w.heap.size (newS n) [w.heap.size] := by
    refine ⟨.slice none 0 0, .slice none 0 0, none, ⟨Has.made _ _ _, rfl, fun _ => ⟨rfl, rfl⟩, (fun c e => by cases e), by simp [newS], (fun c e => by cases e)⟩, World.ownsRow_nil _ _ _ _, World.ownsRow_nil _ _ _ _, rfl, by simp, ⟨⟨by simp [newS]; omega, by simp [newS]; omega⟩, by simp [newS], rfl, by simp [newS], by simp [newS], by simp [newS], by simp [newS]⟩⟩
  have HD := Lib.hid hD
  clear hD
  go_enter Tryd.func11, Tryd.ntmps11
  go_wp2
  go_ret2
  exact ⟨rfl, HD.out, (Below.refl _ _).alloc (Nat.le_refl _) _⟩
end Go.Proofs.YthcpjpebahiikaaDoor

namespace Go.Proofs.YthcpjpebahiikaaDoor
open Go.RowKit Go.Lib

/-- A page of noughts. -/
def blank : ByteArray := ⟨(List.replicate 256 (0 : UInt8)).toArray⟩
theorem blank_size : blank.size = 256 := by
  show (List.replicate 256 (0 : UInt8)).toArray.size = 256
  rw [List.size_toArray, List.length_replicate]

/-- A device with k new pages. -/
def longer (s : DevS) (k : Nat) : DevS := { s with pages := s.pages ++ List.replicate k blank, synced := s.synced ++ List.replicate k blank }
theorem longer_ok {s : DevS} (h : DevOK s) {k : Nat} (hk : s.pages.length + k ≤ 3000) : DevOK (longer s k) := by
  refine ⟨h.most, h.fuse, by simp [longer, h.len], by simpa [longer] using hk, fun x hx => ?_, fun x hx => ?_, fun x hx => ?_⟩
  · rcases List.mem_append.1 hx with h1 | h1
    · exact h.pages x h1
    · rw [List.eq_of_mem_replicate h1]; exact blank_size
  · rcases List.mem_append.1 hx with h1 | h1
    · exact h.synced x h1
    · rw [List.eq_of_mem_replicate h1]; exact blank_size
  · obtain ⟨a, b, c⟩ := h.line x hx
    refine ⟨a, ?_, c⟩
    simp [longer]
    omega
theorem longer_succ_pages (s : DevS) (k : Nat) : (longer s k).pages ++ [blank] = (longer s (k + 1)).pages := by simp [longer, List.replicate_succ']
theorem longer_succ_synced (s : DevS) (k : Nat) : (longer s k).synced ++ [blank] = (longer s (k + 1)).synced := by simp [longer, List.replicate_succ']
theorem Tryd.infoStr2 : (Tryd.prog.info? 9).map (fun i => (i.zero, i.size, i.bytes)) = some (some (.string ⟨#[]⟩), 1, 16) := by kernel_rfl
theorem longer_zero (s : DevS) : longer s 0 = s := by simp [longer]

theorem repeat_any (w : World) : Calls Tryd.prog 30 #[.string ⟨#[0]⟩, .int .i64 256] w fun e w' => e = .returned (.string blank) ∧ Below w.heap.size w w' := by
  have h := Tryd.strings_Repeat ⟨#[0]⟩ 256 w (by omega) (by show 1 * 256 ≤ _; omega)
  have e : Lib.repeatL (⟨#[0]⟩ : ByteArray).data.toList 256 = List.replicate 256 0 := by
    show Lib.repeatL [0] 256 = _
    decide +kernel
  rw [e] at h
  exact h

/-- What Grow tells, and leaves, where there is power. -/
def growE (s : DevS) (n : Int) : Int := if n < s.pages.length then 1 else if n > s.most then 10 else 0
def growS (s : DevS) (n : Int) : DevS := if growE s n = 0 then longer s (n.toNat - s.pages.length) else s

/-- What a call on a device comes to: it answers v, the device is s; nothing else that was there has turned. -/
def DevTo (p : Nat) (s : DevS) (v : Value) (F : List Nat) (w : World) (e : Ending) (w' : World) : Prop := e = .returned v ∧ ∃ F', DevAt w' p s F' ∧ Goes F w F' w'

theorem goes_of_kept {F G : List Nat} {w w' : World} (h : Kept G w w') (hs : ∀ k ∈ G, k ∈ F) : Goes F w F w' := ⟨h.mono (fun k hk => .inl (hs k hk)), fun _ hk => .inl hk⟩
theorem DevAt.goes {w w' : World} {p : Nat} {s : DevS} {F : List Nat} (h : DevAt w p s F) (hb : Below w.heap.size w w') : DevAt w' p s F ∧ Goes F w F w' :=
  ⟨h.kept (Kept.of_below (F := []) hb) (by simp), goes_of_kept (Kept.of_below (F := []) hb) (by simp)⟩

set_option maxHeartbeats 400000 in
theorem grow_nil (n : Int) (w : World) : Calls Tryd.prog 13 #[.pointer none, .int .i64 n] w fun e w' => e = .returned (.int .i64 14) ∧ w = w' := by
  go_enter Tryd.func13, Tryd.ntmps13
  go_wp2_with (go_at_call 29; refine (powered_nil _).mono ?_; rintro e w' ⟨rfl, rfl⟩)
  go_ret
  exact ⟨rfl, rfl⟩

set_option maxHeartbeats 400000 in
theorem grow_off (p : Nat) (s : DevS) (F : List Nat) (n : Int) (w : World) (h : DevAt w p s F) (hoff : (powS s).on = false) :
    Calls Tryd.prog 13 #[.pointer (some ⟨p, 0, none⟩), .int .i64 n] w (DevTo p (powS s) (.int .i64 14) F w) := by
  have hp := powered_any p s F w h
  rw [hoff] at hp
  have hm := h.mem
  clear h hoff
  go_enter Tryd.func13, Tryd.ntmps13
  go_wp2_with fail
  refine hp.mono ?_
  rintro e w1 ⟨rfl, hd, hk⟩
  have HX := Lib.hid (And.intro hd hk)
  clear hd hk hp
  go_wp2
  go_ret
  exact ⟨rfl, F, HX.out.1, goes_of_kept HX.out.2 (by simpa using hm)⟩

set_option maxRecDepth 1000000 in
set_option maxHeartbeats 800000 in
theorem grow_on (p : Nat) (s : DevS) (F : List Nat) (n : Int) (w : World) (h : DevAt w p s F) (hon : (powS s).on = true) :
    Calls Tryd.prog 13 #[.pointer (some ⟨p, 0, none⟩), .int .i64 n] w (DevTo p (growS (powS s) n) (.int .i64 (growE (powS s) n)) F w) := by
  have hp := powered_any p s F w h
  rw [hon] at hp
  have hm := h.mem
  generalize powS s = s1 at *
  have HH := Lib.hid h
  clear h hon
  go_enter Tryd.func13, Tryd.ntmps13
  go_wp2_with fail
  refine hp.mono ?_
  rintro e w1 ⟨rfl, hd, hk⟩
  obtain ⟨A0, cc, c3, -⟩ := hd.pages
  obtain ⟨c0, -⟩ := hd.cells
  have HX := Lib.hid (And.intro hd hk)
  have hok := hd.ok
  have hmost := hok.most
  have hlen := hok.few
  have hg1 : Goes F w F w1 := goes_of_kept hk (by simpa using hm)
  have HG := Lib.hid hg1
  have hi1 := hd.inside
  generalize hL : s1.pages.length = L at *
  generalize hM : s1.most = M at *
  have HL := Lib.hid hL
  have HM := Lib.hid hM
  have HOK := Lib.hid hok
  clear hd hk hp hL hM hg1 hok
  by_cases h1 : n < L
  · have hx : growE s1 n = 1 := by unfold growE; rw [HL.out, if_pos h1]
    have hy : growS s1 n = s1 := by unfold growS; rw [hx]; rfl
    have HXY := Lib.hid (And.intro hx hy)
    clear hx hy
    go_wp2
    go_ret
    rw [HXY.out.1, HXY.out.2]
    exact ⟨rfl, F, HX.out.1, HG.out⟩
  · by_cases h2 : n > M
    · have hx : growE s1 n = 10 := by unfold growE; rw [HL.out, HM.out, if_neg h1, if_pos h2]
      have hy : growS s1 n = s1 := by unfold growS; rw [hx]; rfl
      have HXY := Lib.hid (And.intro hx hy)
      clear hx hy
      go_wp2
      go_ret
      rw [HXY.out.1, HXY.out.2]
      exact ⟨rfl, F, HX.out.1, HG.out⟩
    · have hx : growE s1 n = 0 := by unfold growE; rw [HL.out, HM.out, if_neg h1, if_neg h2]
      obtain ⟨m, hnm⟩ : ∃ m : Nat, n = (L : Int) + m := ⟨n.toNat - L, by omega⟩
      have hy : growS s1 n = longer s1 m := by unfold growS; rw [if_pos hx, HL.out]; congr 1; omega
      have HXY := Lib.hid (And.intro hx hy)
      subst hnm
      clear hx hy
      go_wp2_with (go_at_call 30; refine (repeat_any _).mono ?_; rintro e w2 ⟨rfl, hb2⟩)
      have hst : ∃ F', DevAt w2 p (longer s1 0) F' ∧ Goes F w F' w2 := by
        rw [longer_zero]
        obtain ⟨hd2, hg2⟩ := HX.out.1.goes hb2
        exact ⟨F, hd2, HG.out.trans hg2⟩
      have HST := Lib.hid hst
      clear hst hb2 c3 c0 hi1
      go_loopg [] m (fun k wr => ∃ (j : Nat) (F' : List Nat), j + k = m ∧ DevAt wr p (longer s1 j) F' ∧ Goes F w F' wr)
      case atStart =>
        obtain ⟨F', h5, h6⟩ := HST.out
        exact ⟨0, F', by omega, h5, h6⟩
      case round =>
        clear HST
        obtain ⟨j, F', hjk, hd, hgo⟩ := hrel
        have hdok := hd.ok
        obtain ⟨pv, sv, ch, hmem, hF⟩ := hd.mem_
        obtain ⟨A1, cc1, hpv, -⟩ := drow_form hmem.rowp
        have hlj : (longer s1 j).pages.length = L + j := by simp [longer, HL.out]
        have hsj : (longer s1 j).synced.length = L + j := by rw [hdok.len, hlj]
        obtain ⟨N, hN⟩ : ∃ N, L + j = N := ⟨_, rfl⟩
        rw [hN] at hlj hsj
        have hrp := hmem.rowp
        have hrs := hmem.rows
        rw [hlj] at hrp hpv
        rw [hsj] at hrs
        subst hpv
        have c3 : wr.cell? ⟨p, 3, none⟩ = some (.slice A1 N cc1) := hmem.line.has.cell 3
        have f3 := hmem.line.has.free 3
        have hin := hmem.line.has.inside
        have HN := Lib.hid (And.intro hN (And.intro hlj (And.intro hsj hF)))
        have HMEM := Lib.hid hmem
        have HD := Lib.hid (And.intro hd (And.intro hgo hdok))
        have HJ := Lib.hid hjk
        have hNb : N ≤ 3000 := by omega
        by_cases hk0 : gk = 0
        · have hge : ¬ (N : Int) < (L : Int) + (m : Int) := by omega
          have hj : j = m := by omega
          have HJM := Lib.hid hj
          clear hmem hd hgo hdok hF hlj hsj hN hrp hrs hj hjk
          go_wp2
          go_ret
          obtain ⟨a1, a2⟩ := HXY.out
          rw [a1, a2, ← HJM.out]
          exact ⟨rfl, F', HD.out.1, HD.out.2.1⟩
        · have hlt : (N : Int) < (L : Int) + (m : Int) := by omega
          clear hmem hd hgo hdok hF hlj hsj hN hjk
          go_wp2_with (first
            | (at_builtin; refine append_fresh rfl _ _ 57 9 (.string ⟨#[]⟩) 16 Tryd.underlying57 Tryd.infoStr2 rfl (by decide) rfl wr (.slice A1 N cc1) N _ rfl hrp (.string blank) rfl wr.heap.size rfl rfl (by omega) ?_
               intro v1 w3 q1 q2 q3
               obtain ⟨A2, cc2, rfl, -⟩ := drow_form q1
               have hkp : Kept (Value.slice A1 N cc1).ownBlock.toList wr w3 := Kept.of_grown q3 (fun k e => by simpa using e)
               have hh := HMEM.out.line.has.kept hkp (by simp; exact fun e => ((nodup_devBlocks.1 HMEM.out.nodup).1 p e).1 rfl)
               have z3 := hh.cell 3
               have z4 := hh.cell 4
               have y3 := hh.free 3
               have y4 := hh.free 4
               have hi3 := hh.inside
               simp [devCells] at z3 z4
               obtain ⟨hm3, hg3⟩ := HMEM.out.newPages ((longer s1 j).pages ++ [blank]) (by rw [List.length_append, HN.out.2.1, List.map_append]; exact q1) q2 q3
               have hrs3 := hm3.rows
               have HM3 := Lib.hid (And.intro hm3 hg3)
               have e3 : ({ longer s1 j with pages := (longer s1 j).pages ++ [blank] } : DevS).synced = (longer s1 j).synced := rfl
               rw [e3, HN.out.2.2.1] at hrs3
               clear hm3 hg3 hkp hh q1 q2 q3 e3)
            | (at_builtin; refine append_fresh rfl _ _ 57 9 (.string ⟨#[]⟩) 16 Tryd.underlying57 Tryd.infoStr2 rfl (by decide) rfl (w3.setCell ⟨p, 3, none⟩ (.slice A2 (N + 1) cc2)) sv N _ rfl hrs3 (.string blank) rfl w3.heap.size (by simp) rfl (by omega) ?_
               intro v2 w4 q1 q2 q3
               obtain ⟨A3, cc3, rfl, -⟩ := drow_form q1
               have hkp : Kept sv.ownBlock.toList (w3.setCell ⟨p, 3, none⟩ (.slice A2 (N + 1) cc2)) w4 := Kept.of_grown q3 (fun k e => by simpa using e)
               have hh := HM3.out.1.line.has.kept hkp (by simp; exact fun e => ((nodup_devBlocks.1 HM3.out.1.nodup).2.1 p e).1 rfl)
               have z3 := hh.cell 4
               have y3 := hh.free 4
               have hi4 := hh.inside
               simp [devCells] at z3
               have HM4 := Lib.hid (HM3.out.1.newSynced ((longer s1 j).synced ++ [blank]) (by rw [List.length_append, HN.out.2.2.1, List.map_append]; exact q1) q2 q3)
               clear hkp hh q1 q2 q3))
          go_roundg (gk - 1)
          case measure => omega
          case rel =>
            have hj1 : s1.pages.length + (j + 1) ≤ 3000 := by
              have := HJ.out
              rw [HL.out]
              omega
            obtain ⟨d1, d2⟩ := HM4.out
            have e4 : ({ ({ longer s1 j with pages := (longer s1 j).pages ++ [blank] } : DevS) with synced := (longer s1 j).synced ++ [blank] } : DevS) = longer s1 (j + 1) := by
              rw [longer_succ_pages, longer_succ_synced]
              rfl
            rw [e4] at d1
            have hF := HN.out.2.2.2
            refine ⟨j + 1, _, by have := HJ.out; omega, d1.at_ (longer_ok HOK.out hj1), HD.out.2.1.trans ?_⟩
            rw [hF]
            exact HM3.out.2.trans d2
end Go.Proofs.YthcpjpebahiikaaDoor

namespace Go.Proofs.YthcpjpebahiikaaDoor
open Go.RowKit Go.Lib

theorem DevMem.setPage {w : World} {p : Nat} {s : DevS} {g n c : Nat} {sv : Value} {ch : Option Nat} (h : DevMem w p s (.slice (some ⟨g, 0, none⟩) n c) sv ch) (j : Nat) (x : ByteArray) :
    DevMem (w.setCell ⟨g, j, none⟩ (.string x)) p { s with pages := s.pages.set j x } (.slice (some ⟨g, 0, none⟩) n c) sv ch ∧ Kept [g] w (w.setCell ⟨g, j, none⟩ (.string x)) := by
  obtain ⟨n1, n2, n3⟩ := nodup_devBlocks.1 h.nodup
  have hg := n1 g rfl
  have hk : Kept [g] w (w.setCell ⟨g, j, none⟩ (.string x)) := (Kept.refl _ _).setCell (.inl (by simp)) _
  have hr := h.rowp
  have hn : s.pages.length = n := by
    rcases hr.2 with ⟨e, _⟩ | ⟨_, _, _, e, _⟩
    · cases e
    · simp at e
      exact e.2.1.symm
  rw [hn] at hr
  obtain ⟨hst, _⟩ := hr.stored j (.string x)
  refine ⟨⟨h.line.kept hk (by simpa using fun e => hg.1 e.symm) (fun c2 e => by simp; intro e2; subst e2; exact hg.2.2 e), ?_, row_kept h.rows hk (fun k e => by simp; intro e2; subst e2; exact hg.2.1 e), h.nodup⟩, hk⟩
  have e : ({ s with pages := s.pages.set j x } : DevS).pages.map Value.string = (s.pages.map Value.string).set j (.string x) := by simp [List.map_set]
  rw [e]
  simpa [hn] using hst

theorem DevMem.setSync {w : World} {p : Nat} {s : DevS} {g n c : Nat} {pv : Value} {ch : Option Nat} (h : DevMem w p s pv (.slice (some ⟨g, 0, none⟩) n c) ch) (j : Nat) (x : ByteArray) :
    DevMem (w.setCell ⟨g, j, none⟩ (.string x)) p { s with synced := s.synced.set j x } pv (.slice (some ⟨g, 0, none⟩) n c) ch ∧ Kept [g] w (w.setCell ⟨g, j, none⟩ (.string x)) := by
  obtain ⟨n1, n2, n3⟩ := nodup_devBlocks.1 h.nodup
  have hg := n2 g rfl
  have hk : Kept [g] w (w.setCell ⟨g, j, none⟩ (.string x)) := (Kept.refl _ _).setCell (.inl (by simp)) _
  have hr := h.rows
  have hn : s.synced.length = n := by
    rcases hr.2 with ⟨e, _⟩ | ⟨_, _, _, e, _⟩
    · cases e
    · simp at e
      exact e.2.1.symm
  rw [hn] at hr
  obtain ⟨hst, _⟩ := hr.stored j (.string x)
  refine ⟨⟨h.line.kept hk (by simpa using fun e => hg.1 e.symm) (fun c2 e => by simp; intro e2; subst e2; exact hg.2 e), row_kept h.rowp hk (fun k e => by simp; intro e2; subst e2; exact (n1 _ e).2.1 rfl), ?_, h.nodup⟩, hk⟩
  have e : ({ s with synced := s.synced.set j x } : DevS).synced.map Value.string = (s.synced.map Value.string).set j (.string x) := by simp [List.map_set]
  rw [e]
  simpa [hn] using hst

theorem DevMem.newLine {w w' : World} {p : Nat} {s : DevS} {pv sv : Value} {ch : Option Nat} (h : DevMem w p s pv sv ch) {c' : Nat} (hc : ch = some c' ∨ w.heap.size ≤ c') {l : List (Int × ByteArray)} {cap : Nat}
    (hl : LineAt w' p 62 ((devCells s pv sv ch).setIfInBounds 5 (.chan (some c'))) 5 l cap (some c')) (hk : Kept (p :: ch.toList) w w') :
    DevMem w' p { s with line := l, cap := cap } pv sv (some c') ∧ Goes (devBlocks p pv sv ch) w (devBlocks p pv sv (some c')) w' := by
  obtain ⟨n1, n2, n3⟩ := nodup_devBlocks.1 h.nodup
  have hlt := h.lt
  have hd : ∀ k, (pv.ownBlock = some k ∨ sv.ownBlock = some k) → k ≠ c' := by
    intro k hk2 e
    subst e
    rcases hc with e | e
    · subst e
      rcases hk2 with h1 | h1
      · exact (n1 k h1).2.2 rfl
      · exact (n2 k h1).2 rfl
    · have : k < w.heap.size := hlt k (mem_devBlocks.2 (by rcases hk2 with h1 | h1 <;> simp [h1]))
      omega
  have hpc : p ≠ c' := by
    intro e
    rcases hc with e2 | e2
    · exact n3 (e ▸ e2)
    · have := hlt p (mem_devBlocks.2 (.inl rfl))
      omega
  refine ⟨⟨hl, row_kept h.rowp hk (fun g e => ?_), row_kept h.rows hk (fun g e => ?_), nodup_devBlocks.2 ⟨fun k e => ⟨(n1 k e).1, (n1 k e).2.1, fun e2 => hd k (.inl e) (Option.some.inj e2).symm⟩, fun k e => ⟨(n2 k e).1, fun e2 => hd k (.inr e) (Option.some.inj e2).symm⟩, fun e => hpc (Option.some.inj e).symm⟩⟩,
    hk.mono (fun k hk2 => .inl (mem_devBlocks.2 (by simp at hk2; rcases hk2 with e | e <;> simp [e]))), fun k hk2 => ?_⟩
  · simp only [List.mem_cons, Option.mem_toList, not_or]
    exact ⟨(n1 g e).1, (n1 g e).2.2⟩
  · simp only [List.mem_cons, Option.mem_toList, not_or]
    exact ⟨(n2 g e).1, (n2 g e).2⟩
  · rcases mem_devBlocks.1 hk2 with e | e | e | e
    · exact .inl (mem_devBlocks.2 (.inl e))
    · exact .inl (mem_devBlocks.2 (.inr (.inl e)))
    · exact .inl (mem_devBlocks.2 (.inr (.inr (.inl e))))
    · obtain rfl := Option.some.inj e
      rcases hc with e2 | e2
      · exact .inl (mem_devBlocks.2 (.inr (.inr (.inr e2))))
      · exact .inr e2

/-- A write is done: it waits. -/
def wroteS (s : DevS) (n : Int) (d : ByteArray) : DevS := { s with pages := s.pages.set n.toNat d, line := s.line ++ [(n, d)], cap := roomed s.line s.cap }
theorem wrote_ok {s : DevS} (h : DevOK s) {n : Int} {d : ByteArray} (hf : faultE s n d = 0) : DevOK (wroteS s n d) := by
  have hn : 0 ≤ n ∧ n < s.pages.length ∧ d.size = 256 := by
    unfold faultE at hf
    split at hf
    · split at hf
      · exact ⟨by omega, by omega, by assumption⟩
      · cases hf
    · cases hf
  refine ⟨h.most, h.fuse, by simp [wroteS, h.len], by simp [wroteS, h.few], fun x hx => ?_, h.synced, fun x hx => ?_⟩
  · rcases List.mem_or_eq_of_mem_set hx with h1 | h1
    · exact h.pages x h1
    · rw [h1]; exact hn.2.2
  · simp only [wroteS, List.length_set]
    rcases List.mem_append.1 hx with h1 | h1
    · exact h.line x h1
    · simp at h1
      subst h1
      exact ⟨hn.1, hn.2.1, hn.2.2⟩
theorem powS_ok {s : DevS} (h : DevOK s) : DevOK (powS s) := by
  unfold powS
  split
  · split
    · exact h
    · have := h.fuse
      exact ⟨h.most, ⟨by simp; omega, by simp; omega⟩, h.len, h.few, h.pages, h.synced, h.line⟩
  · exact h

/-- What Write tells, and leaves. -/
def writeE (s : DevS) (n : Int) (d : ByteArray) : Int := if s.on = true then (if (powS s).on = true then faultE (powS s) n d else 14) else 14
def writeS (s : DevS) (n : Int) (d : ByteArray) : DevS := if s.on = true then (if faultE (powS s) n d = 0 then wroteS (powS s) n d else powS s) else s

set_option maxHeartbeats 400000 in
theorem write_nil (n : Int) (d : ByteArray) (w : World) : Calls Tryd.prog 15 #[.pointer none, .int .i64 n, .string d] w fun e w' => e = .returned (.int .i64 14) ∧ w = w' := by
  go_enter Tryd.func15, Tryd.ntmps15
  go_wp2_with (go_at_call 32; refine (on_nil _).mono ?_; rintro e w' ⟨rfl, rfl⟩)
  go_ret
  exact ⟨rfl, rfl⟩

set_option maxHeartbeats 400000 in
theorem write_off (p : Nat) (s : DevS) (F : List Nat) (n : Int) (d : ByteArray) (w : World) (h : DevAt w p s F) (hoff : s.on = false) :
    Calls Tryd.prog 15 #[.pointer (some ⟨p, 0, none⟩), .int .i64 n, .string d] w fun e w' => e = .returned (.int .i64 14) ∧ w = w' := by
  have hon := on_any p s F w h
  rw [hoff] at hon
  clear h hoff
  go_enter Tryd.func15, Tryd.ntmps15
  go_wp2_with (go_at_call 32; refine hon.mono ?_; rintro e w' ⟨rfl, rfl⟩)
  go_ret
  exact ⟨rfl, rfl⟩

set_option maxRecDepth 1000000 in
set_option maxHeartbeats 400000 in
/-- A write that would not be done. -/
theorem write_bad (p : Nat) (s : DevS) (F : List Nat) (n : Int) (d : ByteArray) (w : World) (h : DevAt w p s F) (hon : s.on = true) (hf : faultE (powS s) n d ≠ 0) :
    Calls Tryd.prog 15 #[.pointer (some ⟨p, 0, none⟩), .int .i64 n, .string d] w (DevTo p (powS s) (.int .i64 (if (powS s).on = true then faultE (powS s) n d else 14)) F w) := by
  have ho := on_any p s F w h
  rw [hon] at ho
  have hp := powered_any p s F w h
  have hm := h.mem
  generalize powS s = s1 at *
  generalize hb : s1.on = b at *
  have HB := Lib.hid hb
  generalize hE : faultE s1 n d = E at *
  have HE := Lib.hid hE
  have hne : (E == 0) = false := by simpa using hf
  clear h hon hb hE hf
  cases b
  · rw [if_neg (by decide)]
    go_enter Tryd.func15, Tryd.ntmps15
    go_wp2_with (go_at_call 32; refine ho.mono ?_; rintro e w' ⟨rfl, rfl⟩)
    refine hp.mono ?_
    rintro e w1 ⟨rfl, hd, hk⟩
    have hfa := fault_any p s1 F n d w1 hd
    rw [HE.out] at hfa
    have HX := Lib.hid (And.intro hd hk)
    clear hd hk hp
    go_wp2_with (go_at_call 33; refine hfa.mono ?_; rintro e w' ⟨rfl, rfl⟩)
    go_ret
    exact ⟨rfl, F, HX.out.1, goes_of_kept HX.out.2 (by simpa using hm)⟩
  · rw [if_pos rfl]
    go_enter Tryd.func15, Tryd.ntmps15
    go_wp2_with (go_at_call 32; refine ho.mono ?_; rintro e w' ⟨rfl, rfl⟩)
    refine hp.mono ?_
    rintro e w1 ⟨rfl, hd, hk⟩
    have hfa := fault_any p s1 F n d w1 hd
    rw [HE.out] at hfa
    have HX := Lib.hid (And.intro hd hk)
    clear hd hk hp
    go_wp2_with (go_at_call 33; refine hfa.mono ?_; rintro e w' ⟨rfl, rfl⟩)
    go_ret
    exact ⟨rfl, F, HX.out.1, goes_of_kept HX.out.2 (by simpa using hm)⟩

set_option maxRecDepth 1000000 in
set_option maxHeartbeats 800000 in
/-- A write that is done, or at which the power fails. -/
theorem write_ok (p : Nat) (s : DevS) (F : List Nat) (n : Int) (d : ByteArray) (w : World) (h : DevAt w p s F) (hon : s.on = true) (hf : faultE (powS s) n d = 0) (hcap : s.cap ≤ 100000000000) :
    Calls Tryd.prog 15 #[.pointer (some ⟨p, 0, none⟩), .int .i64 n, .string d] w (DevTo p (wroteS (powS s) n d) (.int .i64 (if (powS s).on = true then 0 else 14)) F w) := by
  have ho := on_any p s F w h
  rw [hon] at ho
  have hp := powered_any p s F w h
  have hm := h.mem
  have hcap1 : (powS s).cap ≤ 100000000000 := by
    have : (powS s).cap = s.cap := by unfold powS; split <;> first | rfl | (split <;> rfl)
    omega
  generalize powS s = s1 at *
  have hwk := fun hok => wrote_ok (s := s1) hok hf
  have hn : 0 ≤ n ∧ n < s1.pages.length ∧ d.size = 256 := by
    unfold faultE at hf
    split at hf
    · split at hf
      · exact ⟨by omega, by omega, by assumption⟩
      · cases hf
    · cases hf
  obtain ⟨hn0, hn1, hds⟩ := hn
  obtain ⟨k, rfl⟩ : ∃ k : Nat, n = k := ⟨n.toNat, by omega⟩
  have hcl := clone_any2 d (by omega)
  generalize hb : s1.on = b at *
  have HF := Lib.hid hf
  have HWK := Lib.hid hwk
  obtain ⟨a, ha⟩ : ∃ a : Int, (if b = true then 0 else 14) = a := ⟨_, rfl⟩
  rw [ha]
  have HA := Lib.hid ha
  clear h hon hb hf hds hwk ha
  go_enter Tryd.func15, Tryd.ntmps15
  go_wp2_with (go_at_call 32; refine ho.mono ?_; rintro e w' ⟨rfl, rfl⟩)
  refine hp.mono ?_
  rintro e w1 ⟨rfl, hd, hk⟩
  have hfa := fault_any p s1 F k d w1 hd
  rw [HF.out] at hfa
  have HX := Lib.hid (And.intro hd hk)
  clear hd hk hp
  go_wp2_with (go_at_call 33; refine hfa.mono ?_; rintro e w' ⟨rfl, rfl⟩)
  refine (hcl _).mono ?_
  rintro e w2 ⟨rfl, hb2⟩
  obtain ⟨hd2, hg2⟩ := HX.out.1.goes hb2
  have hdok := hd2.ok
  obtain ⟨pv, sv, ch, hmem, hF⟩ := hd2.mem_
  obtain ⟨A1, cc1, hpv, -, hcells⟩ := drow_form hmem.rowp
  have hkl : k < s1.pages.length := by omega
  obtain ⟨g, hA, hcg⟩ := hcells k _ (by rw [List.getElem?_map, List.getElem?_eq_getElem hkl]; rfl)
  subst hA
  subst hpv
  have c3 : w2.cell? ⟨p, 3, none⟩ = some (.slice (some ⟨g, 0, none⟩) s1.pages.length cc1) := hmem.line.has.cell 3
  have hfg := World.ownsRow.frozenAt hmem.rowp k
  obtain ⟨hm3, hk3⟩ := hmem.setPage k d
  have hpu := dvput_any p 62 _ 5 k d _ _ ch _ hm3.line hcap1
  have hsp : p < w2.heap.size := hmem.line.has.inside
  have HY := Lib.hid (And.intro hdok (And.intro hF (And.intro hm3 (And.intro hk3 hg2))))
  generalize hx : s1.pages[k] = x at *
  clear hd2 hg2 hdok hmem hF hcells hm3 hk3 hb2 hx hfa hkl hcl ho
  go_wp2_with fail
  refine hpu.mono ?_
  rintro e w3 ⟨rfl, c', hc', hl3, hk4⟩
  obtain ⟨a1, a2, a3, a4, a5⟩ := HY.out
  have hc2 : ch = some c' ∨ (w2.setCell ⟨g, k, none⟩ (.string d)).heap.size ≤ c' := hc'
  have hnl := a3.newLine hc2 hl3 hk4
  have hin : g ∈ F := by rw [a2]; exact mem_devBlocks.2 (.inr (.inl rfl))
  have hfin : DevTo p (wroteS s1 k d) (.int .i64 a) F w (.returned (.int .i64 a)) w3 := by
    refine ⟨rfl, _, hnl.1.at_ (HWK.out a1), ?_⟩
    have g1 : Goes F w F w1 := goes_of_kept HX.out.2 (by simpa using hm)
    have g3 : Goes F w2 F (w2.setCell ⟨g, k, none⟩ (.string d)) := goes_of_kept a4 (by simpa using hin)
    refine (g1.trans a5).trans (g3.trans ?_)
    rw [a2]
    exact hnl.2
  have HFIN := Lib.hid hfin
  have HA2 := Lib.hid HA.out
  clear a1 a2 a3 a4 a5 hc2 hnl hin hfin hc' hl3 hk4 hpu
  cases b
  · have e : a = 14 := by rw [← HA2.out]; rfl
    subst e
    go_wp2
    go_ret
    exact HFIN.out
  · have e : a = 0 := by rw [← HA2.out]; rfl
    subst e
    go_wp2
    go_ret
    exact HFIN.out

theorem write_any (p : Nat) (s : DevS) (F : List Nat) (n : Int) (d : ByteArray) (w : World) (h : DevAt w p s F) (hcap : s.cap ≤ 100000000000) :
    Calls Tryd.prog 15 #[.pointer (some ⟨p, 0, none⟩), .int .i64 n, .string d] w (DevTo p (writeS s n d) (.int .i64 (writeE s n d)) F w) := by
  unfold writeS writeE
  by_cases hon : s.on = true
  · rw [if_pos hon, if_pos hon]
    by_cases hf : faultE (powS s) n d = 0
    · rw [if_pos hf, hf]
      exact write_ok p s F n d w h hon hf hcap
    · rw [if_neg hf]
      exact write_bad p s F n d w h hon hf
  · rw [if_neg hon, if_neg hon]
    refine (write_off p s F n d w h (by simpa using hon)).mono ?_
    rintro e w' ⟨rfl, rfl⟩
    exact ⟨rfl, F, h, Goes.refl _ _⟩
end Go.Proofs.YthcpjpebahiikaaDoor
