/-
  A device in memory, and walks over the calls that only look at it, or turn a flag.
-/
import Derived.Test.YthcpjpebahiikaaDoorMg23
import Derived.Test.YthcpjpebahiikaaDoorMg24
import Derived.Test.YthcpjpebahiikaaDoorShelf
namespace Go.Proofs.YthcpjpebahiikaaDoor
open Go.RowKit Go.Lib

/-- A device: what it is in Go's words. -/
structure DevS where
  most : Int
  on : Bool
  fuse : Int
  pages : List ByteArray
  synced : List ByteArray
  line : List (Int × ByteArray)
  cap : Nat

def devCells (s : DevS) (pv sv : Value) (ch : Option Nat) : Array Value := #[.int .i64 s.most, .bool s.on, .int .i64 s.fuse, pv, sv, .chan ch]

/-- What holds of every device that was made. -/
structure DevOK (s : DevS) : Prop where
  most : 0 ≤ s.most ∧ s.most ≤ 3000
  fuse : -1 ≤ s.fuse ∧ s.fuse ≤ 9223372036854775807
  len : s.synced.length = s.pages.length
  few : s.pages.length ≤ 3000
  pages : ∀ x ∈ s.pages, x.size = 256
  synced : ∀ x ∈ s.synced, x.size = 256
  line : ∀ x ∈ s.line, 0 ≤ x.1 ∧ x.1 < s.pages.length ∧ x.2.size = 256

/-- The blocks of a device. -/
def devBlocks (p : Nat) (pv sv : Value) (ch : Option Nat) : List Nat := p :: (pv.ownBlock.toList ++ (sv.ownBlock.toList ++ ch.toList))

/-- At block p stands the device s; its blocks are F. -/
def DevAt (w : World) (p : Nat) (s : DevS) (F : List Nat) : Prop :=
  ∃ (pv sv : Value) (ch : Option Nat), LineAt w p 62 (devCells s pv sv ch) 5 s.line s.cap ch ∧ w.ownsRow 0 9 1 pv s.pages.length (s.pages.map Value.string) ∧ w.ownsRow 0 9 1 sv s.synced.length (s.synced.map Value.string) ∧
    F = devBlocks p pv sv ch ∧ F.Nodup ∧ DevOK s

theorem LineAt.putOther {w : World} {g : Nat} {t : TypeId} {cs : Array Value} {o : Nat} {l : List (Int × ByteArray)} {cap : Nat} {ch : Option Nat} (h : LineAt w g t cs o l cap ch) (i : Nat) (hi : i ≠ o) (u : Value) :
    LineAt (w.setCell ⟨g, i, none⟩ u) g t (cs.setIfInBounds i u) o l cap ch := by
  refine ⟨h.has.put i u, by rw [Array.getElem?_setIfInBounds_ne hi]; exact h.cell, h.nil_, fun c e => ?_, h.le, h.wide⟩
  subst e
  obtain ⟨s, r, hc⟩ := h.full c rfl
  exact ⟨s, r, (Below.heap_setCell w _ _ c (fun e => h.ne e.symm)).trans hc⟩

theorem DevAt.mem {w : World} {p : Nat} {s : DevS} {F : List Nat} (h : DevAt w p s F) : p ∈ F := by
  obtain ⟨pv, sv, ch, _, _, _, rfl, _⟩ := h
  simp [devBlocks]
theorem DevAt.ok {w : World} {p : Nat} {s : DevS} {F : List Nat} (h : DevAt w p s F) : DevOK s := by
  obtain ⟨pv, sv, ch, _, _, _, _, _, h⟩ := h
  exact h
theorem DevAt.inside {w : World} {p : Nat} {s : DevS} {F : List Nat} (h : DevAt w p s F) : p < w.heap.size := by
  obtain ⟨pv, sv, ch, h, _⟩ := h
  exact h.has.inside
/-- All blocks of a device are there. -/
theorem DevAt.lt {w : World} {p : Nat} {s : DevS} {F : List Nat} (h : DevAt w p s F) : ∀ k ∈ F, k < w.heap.size := by
  obtain ⟨pv, sv, ch, hl, hp, hs, rfl, _, _⟩ := h
  intro k hk
  simp only [devBlocks, List.mem_cons, List.mem_append, Option.mem_toList] at hk
  rcases hk with rfl | hk | hk | hk
  · exact hl.has.inside
  · exact (World.ownsRow.lt hp k hk).2
  · exact (World.ownsRow.lt hs k hk).2
  · subst hk
    exact hl.chlt
/-- A device stays where none of its blocks turns. -/
theorem DevAt.kept {w w' : World} {p : Nat} {s : DevS} {F G : List Nat} (h : DevAt w p s F) (hk : Kept G w w') (hd : ∀ k ∈ F, k ∉ G) : DevAt w' p s F := by
  obtain ⟨pv, sv, ch, hl, hp, hs, rfl, hn, ho⟩ := h
  simp only [devBlocks, List.mem_cons, List.mem_append, Option.mem_toList] at hd
  exact ⟨pv, sv, ch, hl.kept hk (hd p (.inl rfl)) (fun c e => hd c (.inr (.inr (.inr e)))), row_kept hp hk (fun g e => hd g (.inr (.inl e))), row_kept hs hk (fun g e => hd g (.inr (.inr (.inl e)))), rfl, hn, ho⟩

/-- The cells of a device. -/
theorem DevAt.cells {w : World} {p : Nat} {s : DevS} {F : List Nat} (h : DevAt w p s F) : w.cell? ⟨p, 0, none⟩ = some (.int .i64 s.most) ∧ w.cell? ⟨p, 1, none⟩ = some (.bool s.on) ∧ w.cell? ⟨p, 2, none⟩ = some (.int .i64 s.fuse) ∧
    ∀ i, w.frozen? ⟨p, i, none⟩ = false := by
  obtain ⟨pv, sv, ch, hl, _⟩ := h
  exact ⟨hl.has.cell 0, hl.has.cell 1, hl.has.cell 2, hl.has.free⟩

/-- The flags turn. -/
theorem DevAt.flags {w : World} {p : Nat} {s : DevS} {F : List Nat} (h : DevAt w p s F) (b : Bool) (n : Int) (hn : -1 ≤ n ∧ n ≤ 9223372036854775807) :
    DevAt ((w.setCell ⟨p, 1, none⟩ (.bool b)).setCell ⟨p, 2, none⟩ (.int .i64 n)) p { s with on := b, fuse := n } F ∧ Kept [p] w ((w.setCell ⟨p, 1, none⟩ (.bool b)).setCell ⟨p, 2, none⟩ (.int .i64 n)) := by
  obtain ⟨pv, sv, ch, hl, hp, hs, rfl, hnd, ho⟩ := h
  have hk : Kept [p] w ((w.setCell ⟨p, 1, none⟩ (.bool b)).setCell ⟨p, 2, none⟩ (.int .i64 n)) := ((Kept.refl _ _).setCell (.inl (by simp)) _).setCell (.inl (by simp)) _
  have h2 := (hl.putOther 1 (by decide) (.bool b)).putOther 2 (by decide) (.int .i64 n)
  simp only [devBlocks, List.nodup_cons, List.mem_append, Option.mem_toList] at hnd
  obtain ⟨hnp, _⟩ := hnd
  refine ⟨⟨pv, sv, ch, h2, row_kept hp hk (fun g e => ?_), row_kept hs hk (fun g e => ?_), rfl, ?_, ⟨ho.most, hn, ho.len, ho.few, ho.pages, ho.synced, ho.line⟩⟩, hk⟩
  · simp only [List.mem_singleton]
    intro e2
    subst e2
    exact hnp (.inl e)
  · simp only [List.mem_singleton]
    intro e2
    subst e2
    exact hnp (.inr (.inl e))
  · simp only [devBlocks, List.nodup_cons, List.mem_append, Option.mem_toList]
    exact ⟨hnp, by assumption⟩
/-- One flag turns. -/
theorem DevAt.flagOn {w : World} {p : Nat} {s : DevS} {F : List Nat} (h : DevAt w p s F) (b : Bool) : DevAt (w.setCell ⟨p, 1, none⟩ (.bool b)) p { s with on := b } F ∧ Kept [p] w (w.setCell ⟨p, 1, none⟩ (.bool b)) := by
  obtain ⟨pv, sv, ch, hl, hp, hs, rfl, hnd, ho⟩ := h
  have hk : Kept [p] w (w.setCell ⟨p, 1, none⟩ (.bool b)) := (Kept.refl _ _).setCell (.inl (by simp)) _
  have hnd' := hnd
  simp only [devBlocks, List.nodup_cons, List.mem_append, Option.mem_toList] at hnd
  refine ⟨⟨pv, sv, ch, hl.putOther 1 (by decide) (.bool b), row_kept hp hk (fun g e => ?_), row_kept hs hk (fun g e => ?_), rfl, hnd', ⟨ho.most, ho.fuse, ho.len, ho.few, ho.pages, ho.synced, ho.line⟩⟩, hk⟩
  · simp only [List.mem_singleton]
    intro e2
    subst e2
    exact hnd.1 (.inl e)
  · simp only [List.mem_singleton]
    intro e2
    subst e2
    exact hnd.1 (.inr (.inl e))
theorem DevAt.flagFuse {w : World} {p : Nat} {s : DevS} {F : List Nat} (h : DevAt w p s F) (n : Int) (hn : -1 ≤ n ∧ n ≤ 9223372036854775807) : DevAt (w.setCell ⟨p, 2, none⟩ (.int .i64 n)) p { s with fuse := n } F ∧ Kept [p] w (w.setCell ⟨p, 2, none⟩ (.int .i64 n)) := by
  obtain ⟨pv, sv, ch, hl, hp, hs, rfl, hnd, ho⟩ := h
  have hk : Kept [p] w (w.setCell ⟨p, 2, none⟩ (.int .i64 n)) := (Kept.refl _ _).setCell (.inl (by simp)) _
  have hnd' := hnd
  simp only [devBlocks, List.nodup_cons, List.mem_append, Option.mem_toList] at hnd
  refine ⟨⟨pv, sv, ch, hl.putOther 2 (by decide) (.int .i64 n), row_kept hp hk (fun g e => ?_), row_kept hs hk (fun g e => ?_), rfl, hnd', ⟨ho.most, hn, ho.len, ho.few, ho.pages, ho.synced, ho.line⟩⟩, hk⟩
  · simp only [List.mem_singleton]
    intro e2
    subst e2
    exact hnd.1 (.inl e)
  · simp only [List.mem_singleton]
    intro e2
    subst e2
    exact hnd.1 (.inr (.inl e))

set_option maxHeartbeats 400000 in
theorem on_nil (w : World) : Calls Tryd.prog 32 #[.pointer none] w fun e w' => e = .returned (.bool false) ∧ w = w' := by
  go_enter Tryd.func32, Tryd.ntmps32
  go_wp2
  go_ret
  exact ⟨rfl, rfl⟩
set_option maxHeartbeats 400000 in
theorem on_at (p : Nat) (b : Bool) (w : World) (hc : w.cell? ⟨p, 1, none⟩ = some (.bool b)) : Calls Tryd.prog 32 #[.pointer (some ⟨p, 0, none⟩)] w fun e w' => e = .returned (.bool b) ∧ w = w' := by
  go_enter Tryd.func32, Tryd.ntmps32
  go_wp2
  go_ret
  exact ⟨rfl, rfl⟩
theorem on_any (p : Nat) (s : DevS) (F : List Nat) (w : World) (h : DevAt w p s F) : Calls Tryd.prog 32 #[.pointer (some ⟨p, 0, none⟩)] w fun e w' => e = .returned (.bool s.on) ∧ w = w' := on_at p s.on w h.cells.2.1

/-- What an operation finds, and leaves. -/
def powS (s : DevS) : DevS := if s.on = true then (if s.fuse = -1 then s else { s with on := decide (0 < s.fuse), fuse := s.fuse - 1 }) else s

set_option maxHeartbeats 400000 in
theorem powered_nil (w : World) : Calls Tryd.prog 29 #[.pointer none] w fun e w' => e = .returned (.bool false) ∧ w = w' := by
  go_enter Tryd.func29, Tryd.ntmps29
  go_wp2_with (go_at_call 32; refine (on_nil _).mono ?_; rintro e w' ⟨rfl, rfl⟩)
  go_ret
  exact ⟨rfl, rfl⟩

set_option maxHeartbeats 400000 in
theorem powered_any (p : Nat) (s : DevS) (F : List Nat) (w : World) (h : DevAt w p s F) :
    Calls Tryd.prog 29 #[.pointer (some ⟨p, 0, none⟩)] w fun e w' => e = .returned (.bool (powS s).on) ∧ DevAt w' p (powS s) F ∧ Kept [p] w w' := by
  obtain ⟨c0, c1, c2, hf⟩ := h.cells
  have f1 := hf 1
  have f2 := hf 2
  have hfu := h.ok.fuse
  by_cases hon : s.on = true
  · by_cases hfz : s.fuse = -1
    · have hx : powS s = s := by unfold powS; rw [if_pos hon, if_pos hfz]
      have HX := Lib.hid hx
      have H := Lib.hid h
      rw [hon] at c1
      rw [hfz] at c2
      have HON := Lib.hid hon
      clear hf hx h hfz hfu hon
      go_enter Tryd.func29, Tryd.ntmps29
      go_wp2_with (go_at_call 32; refine (on_at _ _ _ c1).mono ?_; rintro e w' ⟨rfl, rfl⟩)
      go_ret
      rw [HX.out]
      exact ⟨ret_bool HON.out.symm, H.out, Kept.refl _ _⟩
    · have hx : powS s = { s with on := decide (0 < s.fuse), fuse := s.fuse - 1 } := by unfold powS; rw [if_pos hon, if_neg hfz]
      have HX := Lib.hid hx
      have H := Lib.hid (h.flags (decide (0 < s.fuse)) (s.fuse - 1) (by omega))
      have hne : (s.fuse != -1) = true := by simpa using hfz
      rw [hon] at c1
      generalize s.fuse = f at *
      clear hf hx h hon
      go_enter Tryd.func29, Tryd.ntmps29
      go_wp2_with (go_at_call 32; refine (on_at _ _ _ c1).mono ?_; rintro e w' ⟨rfl, rfl⟩)
      go_ret
      rw [HX.out]
      exact ⟨rfl, H.out⟩
  · have hx : powS s = s := by unfold powS; rw [if_neg hon]
    have hon' : s.on = false := by simpa using hon
    have HX := Lib.hid hx
    have H := Lib.hid h
    rw [hon'] at c1
    have HON := Lib.hid hon'
    clear hf hx h hon hon'
    go_enter Tryd.func29, Tryd.ntmps29
    go_wp2_with (go_at_call 32; refine (on_at _ _ _ c1).mono ?_; rintro e w' ⟨rfl, rfl⟩)
    go_ret
    rw [HX.out]
    exact ⟨ret_bool HON.out.symm, H.out, Kept.refl _ _⟩
theorem drow_form {w : World} {base : Nat} {e : TypeId} {v : Value} {n : Nat} {xs : List Value} (h : w.ownsRow base e 1 v n xs) : ∃ A c, v = .slice A n c ∧ n ≤ 9223372036854775807 ∧ ∀ (j : Nat) (u : Value), xs[j]? = some u → ∃ g, A = some ⟨g, 0, none⟩ ∧ w.cell? ⟨g, j, none⟩ = some u := by
  rcases h.2 with ⟨rfl, rfl⟩ | ⟨g, cap, cur, rfl, _, _, hn, hm, _⟩
  · exact ⟨none, 0, rfl, by omega, fun j u hu => by
      have h1 := h.1
      simp at h1
      subst h1
      simp at hu⟩
  · refine ⟨some ⟨g, 0, none⟩, cap, rfl, by unfold maxLen at hm; omega, fun j u hu => ⟨g, rfl, ?_⟩⟩
    have := World.ownsRow.cells h rfl j u hu
    rwa [Go.WideShapes.add_plain, Nat.zero_add] at this

/-- The pages of a device, as they are read. -/
theorem DevAt.pages {w : World} {p : Nat} {s : DevS} {F : List Nat} (h : DevAt w p s F) : ∃ A c, w.cell? ⟨p, 3, none⟩ = some (.slice A s.pages.length c) ∧
    ∀ (j : Nat) (x : ByteArray), s.pages[j]? = some x → ∃ g, A = some ⟨g, 0, none⟩ ∧ w.cell? ⟨g, j, none⟩ = some (.string x) := by
  obtain ⟨pv, sv, ch, hl, hp, _⟩ := h
  obtain ⟨A, c, rfl, _, hc⟩ := drow_form hp
  exact ⟨A, c, hl.has.cell 3, fun j x hx => hc j _ (by rw [List.getElem?_map, hx]; rfl)⟩

set_option maxHeartbeats 400000 in
theorem has_any (p : Nat) (s : DevS) (F : List Nat) (n : Int) (w : World) (h : DevAt w p s F) :
    Calls Tryd.prog 51 #[.pointer (some ⟨p, 0, none⟩), .int .i64 n] w fun e w' => e = .returned (.bool (decide (0 ≤ n ∧ n < s.pages.length))) ∧ w = w' := by
  obtain ⟨A, c, c3, _⟩ := h.pages
  by_cases h0 : 0 ≤ n
  · have hb : decide (0 ≤ n) = true := by simpa using h0
    clear h
    go_enter Tryd.func51, Tryd.ntmps51
    go_wp2
    go_ret
    exact ⟨ret_bool (by simp [h0]), rfl⟩
  · have hb : decide (0 ≤ n) = false := by simpa using h0
    clear h
    go_enter Tryd.func51, Tryd.ntmps51
    go_wp2
    go_ret
    exact ⟨ret_bool (by simp), rfl⟩

/-- What is wrong with a write. -/
def faultE (s : DevS) (n : Int) (d : ByteArray) : Int := if 0 ≤ n ∧ n < s.pages.length then (if d.size = 256 then 0 else 1) else 3

set_option maxHeartbeats 400000 in
theorem fault_any (p : Nat) (s : DevS) (F : List Nat) (n : Int) (d : ByteArray) (w : World) (h : DevAt w p s F) :
    Calls Tryd.prog 33 #[.pointer (some ⟨p, 0, none⟩), .int .i64 n, .string d] w fun e w' => e = .returned (.int .i64 (faultE s n d)) ∧ w = w' := by
  have hh := has_any p s F n w h
  by_cases h0 : 0 ≤ n ∧ n < s.pages.length
  · rw [decide_eq_true h0] at hh
    by_cases h1 : d.size = 256
    · have hx : faultE s n d = 0 := by unfold faultE; rw [if_pos h0, if_pos h1]
      have hb : ((d.size : Int) != 256) = false := by rw [h1]; rfl
      have HX := Lib.hid hx
      clear h hx h1 h0
      go_enter Tryd.func33, Tryd.ntmps33
      go_wp2_with (go_at_call 51; refine hh.mono ?_; rintro e w' ⟨rfl, rfl⟩)
      go_ret
      exact ⟨ret_i64 (by rw [HX.out]), rfl⟩
    · have hx : faultE s n d = 1 := by unfold faultE; rw [if_pos h0, if_neg h1]
      have hb : ((d.size : Int) != 256) = true := by simp; omega
      have HX := Lib.hid hx
      clear h hx h1 h0
      go_enter Tryd.func33, Tryd.ntmps33
      go_wp2_with (go_at_call 51; refine hh.mono ?_; rintro e w' ⟨rfl, rfl⟩)
      go_ret
      exact ⟨ret_i64 (by rw [HX.out]), rfl⟩
  · rw [decide_eq_false h0] at hh
    have hx : faultE s n d = 3 := by unfold faultE; rw [if_neg h0]
    have HX := Lib.hid hx
    clear h hx h0
    go_enter Tryd.func33, Tryd.ntmps33
    go_wp2_with (go_at_call 51; refine hh.mono ?_; rintro e w' ⟨rfl, rfl⟩)
    go_ret
    exact ⟨ret_i64 (by rw [HX.out]), rfl⟩


set_option maxRecDepth 100000 in
set_option maxHeartbeats 400000 in
theorem clone_any2 (s : ByteArray) (hs : s.size ≤ 281474976710656) (w : World) : Calls Tryd.prog 34 #[.string s] w fun e w' => e = .returned (.string s) ∧ Below w.heap.size w w' := by
  go_enter Tryd.func34, Tryd.ntmps34
  go_wp2_with (go_at_call 52; refine (Tryd.stringslite_Clone s _ hs).mono ?_; rintro e w' ⟨rfl, hb⟩)
  go_ret
  exact ⟨rfl, hb⟩

/-- What Read tells. -/
def readB (s : DevS) (n : Int) : ByteArray := if s.on = true ∧ 0 ≤ n then (s.pages[n.toNat]?).getD ByteArray.empty else ByteArray.empty
def readE (s : DevS) (n : Int) : Int := if s.on = true then (if 0 ≤ n ∧ n < s.pages.length then 0 else 3) else 14

set_option maxHeartbeats 400000 in
theorem read_nil (n : Int) (w : World) : Calls Tryd.prog 36 #[.pointer none, .int .i64 n] w fun e w' => e = .returned (.tuple #[.string ByteArray.empty, .int .i64 14]) ∧ w = w' := by
  go_enter Tryd.func36, Tryd.ntmps36
  go_wp2_with (go_at_call 32; refine (on_nil _).mono ?_; rintro e w' ⟨rfl, rfl⟩)
  go_ret2
  exact ⟨rfl, rfl⟩
set_option maxRecDepth 100000 in
set_option maxHeartbeats 400000 in
theorem read_any (p : Nat) (s : DevS) (F : List Nat) (n : Int) (w : World) (h : DevAt w p s F) :
    Calls Tryd.prog 36 #[.pointer (some ⟨p, 0, none⟩), .int .i64 n] w fun e w' => e = .returned (.tuple #[.string (readB s n), .int .i64 (readE s n)]) ∧ Below w.heap.size w w' := by
  have hon := on_any p s F w h
  have hhas := has_any p s F n w h
  unfold readB readE
  by_cases h1 : s.on = true
  · rw [h1] at hon
    by_cases h2 : 0 ≤ n ∧ n < s.pages.length
    · rw [decide_eq_true h2] at hhas
      obtain ⟨k, rfl⟩ : ∃ k : Nat, n = k := ⟨n.toNat, by omega⟩
      have hk : k < s.pages.length := by omega
      obtain ⟨A, c, c3, hp⟩ := h.pages
      obtain ⟨g, rfl, hc⟩ := hp k _ (List.getElem?_eq_getElem hk)
      have hsz : (s.pages[k]).size ≤ 281474976710656 := by rw [h.ok.pages _ (List.getElem_mem hk)]; omega
      rw [if_pos ⟨h1, by omega⟩, if_pos h1, if_pos h2, Int.toNat_natCast, List.getElem?_eq_getElem hk]
      simp only [Option.getD_some]
      generalize s.pages[k] = x at *
      have hk' : (k : Int) < (s.pages.length : Int) := by omega
      clear h hp h1 h2
      go_enter Tryd.func36, Tryd.ntmps36
      go_wp2_with (first | (go_at_call 32; refine hon.mono ?_; rintro e w' ⟨rfl, rfl⟩) | (go_at_call 51; refine hhas.mono ?_; rintro e w' ⟨rfl, rfl⟩) | (go_at_call 34; refine (clone_any2 x hsz _).mono ?_; rintro e w1 ⟨rfl, hb⟩))
      go_ret2
      exact ⟨rfl, hb⟩
    · rw [decide_eq_false h2] at hhas
      rw [if_pos h1, if_neg h2]
      have e : (if s.on = true ∧ 0 ≤ n then (s.pages[n.toNat]?).getD ByteArray.empty else ByteArray.empty) = ByteArray.empty := by
        split
        · rename_i hh
          rw [List.getElem?_eq_none (by omega)]
          rfl
        · rfl
      rw [e]
      clear h h1 h2 e
      go_enter Tryd.func36, Tryd.ntmps36
      go_wp2_with (first | (go_at_call 32; refine hon.mono ?_; rintro e w' ⟨rfl, rfl⟩) | (go_at_call 51; refine hhas.mono ?_; rintro e w' ⟨rfl, rfl⟩))
      go_ret2
      exact ⟨rfl, Below.refl _ _⟩
  · have h1' : s.on = false := by simpa using h1
    rw [h1'] at hon
    rw [if_neg (fun hh => h1 hh.1), if_neg h1]
    clear h h1 h1' hhas
    go_enter Tryd.func36, Tryd.ntmps36
    go_wp2_with (go_at_call 32; refine hon.mono ?_; rintro e w' ⟨rfl, rfl⟩)
    go_ret2
    exact ⟨rfl, Below.refl _ _⟩

end Go.Proofs.YthcpjpebahiikaaDoor
