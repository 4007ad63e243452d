/-
  Walks: Sync, Crash.
-/
import Derived.Test.YtccajgdfjinjbaaDoorD5
import Derived.Shelf.Abstract
namespace Go.Proofs.YtccajgdfjinjbaaDoor
open Go.RowKit Go.Lib

set_option maxHeartbeats 400000 in
theorem sync1_any (n : Int) (w : World) : Calls Tryd.prog 45 #[.int .i64 n] w fun e w' => e = .returned (.int .i64 255) ∧ w = w' := by
  go_enter Tryd.func45, Tryd.ntmps45
  go_wp2
  go_ret
  exact ⟨rfl, rfl⟩

/-- v is a slice that reads as the values xs, in a block that is none of F's. -/
def Reads2 (w : World) (F : List Nat) (v : Value) (xs : List Value) : Prop :=
  ∃ (A : Option Addr) (c : Nat), v = .slice A xs.length c ∧ (0 < xs.length → ∃ b off, A = some ⟨b, off, none⟩ ∧ b < w.heap.size ∧ b ∉ F ∧ ∀ (j : Nat) (u : Value), xs[j]? = some u → w.cell? ⟨b, off + j, none⟩ = some u)
theorem Reads2.kept {w w' : World} {F G : List Nat} {v : Value} {xs : List Value} (h : Reads2 w F v xs) (hk : Kept G w w') (hG : ∀ k ∈ G, k ∈ F ∨ w.heap.size ≤ k) : Reads2 w' F v xs := by
  obtain ⟨A, c, rfl, h⟩ := h
  refine ⟨A, c, rfl, fun hn => ?_⟩
  obtain ⟨b, off, rfl, h1, h2, h3⟩ := h hn
  refine ⟨b, off, rfl, Nat.lt_of_lt_of_le h1 hk.size, h2, fun j u hu => (hk.cell (p := ⟨b, off + j, none⟩) h1 (fun hb => ?_)).trans (h3 j u hu)⟩
  rcases hG b hb with h4 | h4
  · exact h2 h4
  · omega
theorem Reads2.sub {w : World} {F G : List Nat} {v : Value} {xs : List Value} (h : Reads2 w F v xs) (hG : ∀ k ∈ G, k ∈ F ∨ w.heap.size ≤ k) : Reads2 w G v xs := by
  obtain ⟨A, c, rfl, h⟩ := h
  refine ⟨A, c, rfl, fun hn => ?_⟩
  obtain ⟨b, off, rfl, h1, h2, h3⟩ := h hn
  refine ⟨b, off, rfl, h1, fun hb => ?_, h3⟩
  rcases hG b hb with h4 | h4
  · exact h2 h4
  · omega
theorem Reads1.off {w : World} {B : Nat} {F : List Nat} {v : Value} {xs : List Value} (h : Reads1 w B v xs) (hB : B ≤ w.heap.size) (hF : ∀ k ∈ F, B ≤ k) : Reads2 w F v xs := by
  obtain ⟨A, c, rfl, h⟩ := h
  refine ⟨A, c, rfl, fun hn => ?_⟩
  obtain ⟨b, off, rfl, h1, h3⟩ := h hn
  exact ⟨b, off, rfl, by omega, fun hb => by have := hF b hb; omega, h3⟩
theorem Reads2.built (w : World) (t : TypeId) (cs : Array Value) (F : List Nat) (hF : ∀ k ∈ F, k < w.heap.size) : Reads2 (w.alloc (.cells cs t)) F (.slice (some ⟨w.heap.size, 0, none⟩) cs.size cs.size) cs.toList := by
  refine ⟨some ⟨w.heap.size, 0, none⟩, cs.size, by simp, fun _ => ⟨w.heap.size, 0, rfl, by simp, fun hb => by have := hF _ hb; omega, fun j u hu => ?_⟩⟩
  rw [Nat.zero_add, (Has.made w t cs).cell j]
  simpa using hu

/-- The keep of a place. -/
def keepOf (l : List Int) (i : Nat) : Int := l.getD i 0

set_option maxHeartbeats 400000 in
theorem crash1_any (kb : Nat) (i : Nat) (F : List Nat) (l : List Int) (v : Value) (w : World) (hc : w.cell? ⟨kb, 0, none⟩ = some v) (hr : Reads2 w F v (l.map (Value.int .i64))) :
    Calls Tryd.prog 46 #[.int .i64 i, .pointer (some ⟨kb, 0, none⟩)] w fun e w' => e = .returned (.int .i64 (keepOf l i)) ∧ w = w' := by
  obtain ⟨A, c, rfl, hr⟩ := hr
  rw [List.length_map] at hc hr
  by_cases h : i < l.length
  · obtain ⟨b, off, rfl, h1, _, h3⟩ := hr (by omega)
    have hck : w.cell? ⟨b, off + i, none⟩ = some (.int .i64 l[i]) := h3 i _ (by simp [h])
    have hx : keepOf l i = l[i] := by unfold keepOf; rw [List.getD, List.getElem?_eq_getElem h]; rfl
    rw [hx]
    generalize l[i] = x at *
    have hlt : (i : Int) < (l.length : Int) := by omega
    clear hr h3 hx
    go_enter Tryd.func46, Tryd.ntmps46
    go_wp2
    go_ret
    exact ⟨rfl, rfl⟩
  · have hx : keepOf l i = 0 := by unfold keepOf; rw [List.getD, List.getElem?_eq_none (by omega)]; rfl
    rw [hx]
    have hge : ¬ (i : Int) < (l.length : Int) := by omega
    clear hr hx
    go_enter Tryd.func46, Tryd.ntmps46
    go_wp2
    go_ret
    exact ⟨rfl, rfl⟩

/-- What Sync leaves, where there is power. -/
def syncedS (s : DevS) : DevS := settled (fun _ => 255) 0 s.line s
/-- What a crash leaves. -/
def crashS (s : DevS) (l : List Int) : DevS := settled (keepOf l) 0 s.line { s with on := false, fuse := -1 }

set_option maxHeartbeats 400000 in
theorem sync_nil (w : World) : Calls Tryd.prog 22 #[.pointer none] w fun e w' => e = .returned (.int .i64 14) ∧ w = w' := by
  go_enter Tryd.func22, Tryd.ntmps22
  go_wp2_with (go_at_call 34; refine (powered_nil _).mono ?_; rintro e w' ⟨rfl, rfl⟩)
  go_ret
  exact ⟨rfl, rfl⟩

set_option maxRecDepth 1000000 in
set_option maxHeartbeats 400000 in
theorem sync_off (p : Nat) (s : DevS) (F : List Nat) (w : World) (h : DevAt w p s F) (hoff : (powS s).on = false) :
    Calls Tryd.prog 22 #[.pointer (some ⟨p, 0, none⟩)] w fun e w' => e = .returned (.int .i64 14) ∧ DevAt w' p (powS s) F ∧ Kept F w w' := by
  have hp := powered_any p s F w h
  rw [hoff] at hp
  have hm := h.mem
  clear h hoff
  go_enter Tryd.func22, Tryd.ntmps22
  go_wp2_with fail
  refine hp.mono ?_
  rintro e w1 ⟨rfl, hd, hk⟩
  have HX := Lib.hid (And.intro hd hk)
  clear hd hk hp
  go_wp2
  go_ret
  exact ⟨rfl, HX.out.1, HX.out.2.mono (by simpa using .inl hm)⟩

set_option maxRecDepth 1000000 in
set_option maxHeartbeats 400000 in
theorem sync_on (p : Nat) (s : DevS) (F : List Nat) (w : World) (h : DevAt w p s F) (hon : (powS s).on = true) (hl : s.line.length ≤ 100000000000) :
    Calls Tryd.prog 22 #[.pointer (some ⟨p, 0, none⟩)] w fun e w' => e = .returned (.int .i64 0) ∧ DevAt w' p (syncedS (powS s)) F ∧ Kept F w w' := by
  have hp := powered_any p s F w h
  rw [hon] at hp
  have hm := h.mem
  have hl1 : (powS s).line.length ≤ 100000000000 := by
    have : (powS s).line = s.line := by unfold powS; split <;> first | rfl | (split <;> rfl)
    rw [this]
    exact hl
  generalize powS s = s1 at *
  clear h hon hl
  go_enter Tryd.func22, Tryd.ntmps22
  go_wp2_with fail
  refine hp.mono ?_
  rintro e w1 ⟨rfl, hd, hk⟩
  have hs := settle_any p s1 F 45 #[] (fun _ => 255) w1 hd hl1 (fun _ => by unfold IsInt; omega) (enters_of Tryd.func45 (by kernel_rfl) rfl) (fun i w' _ _ => sync1_any i w')
  have HX := Lib.hid (And.intro hd hk)
  clear hd hk hp hl1
  go_wp2_with fail
  refine hs.mono ?_
  rintro e w2 ⟨rfl, hd2, hk2⟩
  have HY := Lib.hid (And.intro hd2 hk2)
  clear hd2 hk2 hs
  go_wp2
  go_ret
  exact ⟨rfl, HY.out.1, (HX.out.2.mono (by simpa using .inl hm)).trans HY.out.2⟩

set_option maxHeartbeats 400000 in
theorem crash_nil (v : Value) (hv : ∃ A n c, v = .slice A n c) (w : World) : Calls Tryd.prog 23 #[.pointer none, v] w fun e w' => e = .returned (.tuple #[]) ∧ Kept [] w w' := by
  obtain ⟨A, n, c, rfl⟩ := hv
  have hk : Kept [] w (w.alloc (.cells #[.slice A n c] 55)) := (Kept.refl _ _).alloc _
  have HK := Lib.hid hk
  clear hk
  go_enter Tryd.func23, Tryd.ntmps23
  go_wp2
  exact bodyPost_ret (results_none rfl _ _ _) rfl ⟨rfl, HK.out⟩

set_option maxRecDepth 1000000 in
set_option maxHeartbeats 400000 in
theorem crash_any (p : Nat) (s : DevS) (F : List Nat) (v : Value) (l : List Int) (w : World) (h : DevAt w p s F) (hr : Reads2 w F v (l.map (Value.int .i64))) (hint : ∀ x ∈ l, IsInt x) (hl : s.line.length ≤ 100000000000) :
    Calls Tryd.prog 23 #[.pointer (some ⟨p, 0, none⟩), v] w fun e w' => e = .returned (.tuple #[]) ∧ DevAt w' p (crashS s l) F ∧ Kept F w w' := by
  have hform : ∃ A n c, v = .slice A n c := by obtain ⟨A, c, rfl, _⟩ := hr; exact ⟨A, _, c, rfl⟩
  have hm := h.mem
  have hFlt := h.lt
  have hk0 : Kept [] w (w.alloc (.cells #[v] 55)) := (Kept.refl _ _).alloc _
  have h1 := h.kept hk0 (by simp)
  have hr1 := hr.kept hk0 (by simp)
  have hkb := Has.made w 55 #[v]
  obtain ⟨c0, c1, c2, hf⟩ := h1.cells
  have f1 := hf 1
  have f2 := hf 2
  obtain ⟨hd2, hk2⟩ := h1.flags false (-1) (by omega)
  have hkn : w.heap.size ∉ F := fun hb => by have := hFlt _ hb; omega
  have hpi : p < (w.alloc (.cells #[v] 55)).heap.size := h1.inside
  have hcrash := settle_any p { s with on := false, fuse := -1 } F 46 #[.pointer (some ⟨w.heap.size, 0, none⟩)] (keepOf l) _ hd2 hl (fun i => by
      unfold keepOf
      rw [List.getD]
      rcases hi : l[i]? with _ | x
      · exact ⟨by simp, by simp⟩
      · exact hint x (List.mem_of_getElem? hi)) (enters_of Tryd.func46 (by kernel_rfl) rfl)
    (fun i w' _ hk => by
      have hk3 : Kept F (w.alloc (.cells #[v] 55)) w' := (hk2.mono (by simpa using .inl hm)).trans hk
      have hb := (hkb.kept hk3 hkn).cell 0
      exact crash1_any w.heap.size i F l v w' hb (hr1.kept hk3 (fun k hk => .inl hk)))
  have hkf : Kept F w (((w.alloc (.cells #[v] 55)).setCell ⟨p, 1, none⟩ (.bool false)).setCell ⟨p, 2, none⟩ (.int .i64 (-1))) := (hk0.mono (by simp)).trans (hk2.mono (by simpa using .inl hm))
  obtain ⟨A, n, c, rfl⟩ := hform
  have HK := Lib.hid hkf
  have HC := Lib.hid hcrash
  clear h h1 hr hr1 hkb hd2 hk2 hkn hcrash hkf hk0 hf hFlt hint
  go_enter Tryd.func23, Tryd.ntmps23
  go_wp2_with fail
  refine HC.out.mono ?_
  rintro e w3 ⟨rfl, hd3, hk3⟩
  have HY := Lib.hid (And.intro hd3 hk3)
  clear hd3 hk3
  go_wp2
  exact bodyPost_end (results_none rfl _ _ _) rfl ⟨rfl, HY.out.1, HK.out.trans HY.out.2⟩
end Go.Proofs.YtccajgdfjinjbaaDoor
