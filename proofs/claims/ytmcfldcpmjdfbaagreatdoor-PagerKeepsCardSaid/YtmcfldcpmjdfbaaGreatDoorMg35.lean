/-
  Free pages: Give and Release.
-/
import Derived.Test.YtmcfldcpmjdfbaaGreatDoorMg12
namespace Go.Proofs.YtmcfldcpmjdfbaaGreatDoor
open Go.RowKit Go.Sort

/-- What waits of one Give: its number, the Seqs behind sq, the pages. -/
def giv (t : Int) (sq : Nat) (xs : List Int) : List Due := xs.zipIdx.map fun u => (t, ((sq + u.2 + 1 : Nat) : Int), u.1)
theorem giv_snoc (t : Int) (sq : Nat) (xs : List Int) (x : Int) : giv t sq (xs ++ [x]) = giv t sq xs ++ [(t, ((sq + xs.length + 1 : Nat) : Int), x)] := by
  unfold giv
  rw [List.zipIdx_append]
  simp
theorem length_giv (t : Int) (sq : Nat) (xs : List Int) : (giv t sq xs).length = xs.length := by simp [giv]
theorem giv_one (t : Int) (sq : Nat) (x : Int) : giv t sq [x] = [(t, ((sq + 1 : Nat) : Int), x)] := by simp [giv]

def dueOf (thr : Int) (m : List Due) : List Due := m.filter fun d => decide (d.1 ≤ thr)
def lateOf (thr : Int) (m : List Due) : List Due := m.filter fun d => decide (thr < d.1)
def whats (m : List Due) : List Int := m.map fun d => d.2.2

theorem parts_of {thr : Int} {T s m : List Due} (h : (T ++ s).Perm m) (hT : ∀ d ∈ T, d.1 ≤ thr) (hs : ∀ d ∈ s, thr < d.1) : T.Perm (dueOf thr m) ∧ s.Perm (lateOf thr m) := by
  have h1 := h.filter (fun d => decide (d.1 ≤ thr))
  have h2 := h.filter (fun d => decide (thr < d.1))
  rw [List.filter_append] at h1 h2
  rw [List.filter_eq_self.2 (by intro d hd; simpa using hT d hd), List.filter_eq_nil_iff.2 (by intro d hd; have := hs d hd; simp; omega), List.append_nil] at h1
  rw [List.filter_eq_nil_iff.2 (by intro d hd; have := hT d hd; simp; omega), List.filter_eq_self.2 (by intro d hd; simpa using hs d hd), List.nil_append] at h2
  exact ⟨h1, h2⟩

section
variable {p : Nat} {w : World} {F : List Nat} {l k : List Int} {m : List Due}

set_option maxRecDepth 100000 in
set_option maxHeartbeats 1000000 in
theorem fgive_any {sq : Nat} {v : Value} {xs : List Int} (t : Int) (h : FreeIs p w F l sq m k) (hv : ReadsO F w v (xs.map (.int .i64))) (hl : xs.length + m.length ≤ 1000000) (hsq : xs.length + sq ≤ 1000000) :
    Calls Tryz.prog 42 #[.pointer (some ⟨p, 0, none⟩), .int .i64 t, v] w fun e w' => e = .returned (.tuple #[]) ∧ ∃ F', FreeIs p w' F' l ((sq + xs.length : Nat) : Int) (giv t sq xs ++ m) k ∧ Goes F w F' w' := by
  obtain ⟨A, c, rfl, hr⟩ := hv
  rw [List.length_map] at *
  obtain ⟨n, hn⟩ : ∃ n, xs.length = n := ⟨_, rfl⟩
  have HR := Lib.hid (show ReadsO F w (.slice A n c) (xs.map (.int .i64)) from ⟨A, c, by rw [List.length_map, hn], by rw [List.length_map]; exact hr⟩)
  have HN := Lib.hid (And.intro hn (And.intro hl hsq))
  have H := Lib.hid h
  rw [hn]
  have hnb : n ≤ 1000000 := by omega
  clear h hr hl hsq hn
  go_enter Tryz.func42, Tryz.ntmps42
  go_wp2_with fail
  go_loopg [12] n (fun g i wr => ∃ (j : Nat), i = .int .i64 j ∧ j + g = n ∧ ∃ G, FreeIs p wr G l ((sq + j : Nat) : Int) (giv t sq (xs.take j) ++ m) k ∧ Goes F w G wr)
  case atStart => exact ⟨0, rfl, by omega, F, by simpa [giv] using H.out, Goes.refl _ _⟩
  case round =>
    obtain ⟨j, rfl, hjg, G, hf, hgo⟩ := hrel
    by_cases hlt : j < n
    · have hlt' : j < xs.length := by rw [HN.out.1]; exact hlt
      have hro := HR.out.goes hgo
      obtain ⟨A', c', hA, hro⟩ := hro
      obtain ⟨b, off, hAb, hbl, hbG, hcell⟩ := hro (by rw [List.length_map]; omega)
      simp only [Value.slice.injEq] at hA
      obtain ⟨rfl, hA2, rfl⟩ := hA
      subst hAb
      have hck := hcell j (.int .i64 xs[j]) (by simp [hlt'])
      obtain ⟨S, F0, h0, hsub, hback⟩ := hf.waits
      have hlj : (giv t sq (xs.take j) ++ m).length < 1000000 := by
        have h1 := HN.out.2.1
        rw [List.length_append, length_giv]
        simp
        omega
      have hpu := lput_any t xs[j] h0 hlj (by have := HN.out.2.2; omega)
      have e1 : (xs.take (j + 1)) = xs.take j ++ [xs[j]] := by rw [List.take_succ_eq_append_getElem hlt']
      have e2 : giv t sq (xs.take (j + 1)) = giv t sq (xs.take j) ++ [(t, ((sq + j + 1 : Nat) : Int), xs[j])] := by
        rw [e1, giv_snoc]
        have : (xs.take j).length = j := by simp; omega
        rw [this]
      have HE := Lib.hid (And.intro e2 (And.intro hback hgo))
      generalize hx : xs[j] = x at *
      have k0 : (0 : Int) ≤ j := by omega
      have k1 : (j : Int) < n := by omega
      clear hgo hf h0 hsub hback e1 e2 hcell hbl hbG hA2 hro hx hlj
      obtain ⟨z, hz⟩ : ∃ z : Int, ((sq + j + 1 : Nat) : Int) = z := ⟨_, rfl⟩
      have HZ := Lib.hid hz
      rw [hz] at hpu
      clear hz
      go_wp2_with fail
      refine hpu.mono ?_
      rintro e w2 ⟨rfl, G', hp2, hg2⟩
      have H2 := Lib.hid (And.intro hp2 hg2)
      clear hp2 hg2 hpu
      go_wp2
      go_roundg (n - (j + 1))
      case measure => omega
      case rel =>
        obtain ⟨e2, hback, hgo⟩ := HE.out
        obtain ⟨F2, hf2, hg2⟩ := hback _ _ _ _ H2.out.1 H2.out.2
        refine ⟨j + 1, by go_num, by omega, F2, ?_, hgo.trans hg2⟩
        rw [e2, show ((sq + (j + 1) : Nat) : Int) = z from HZ.out]
        refine hf2.perm (List.Perm.refl _) ?_ (List.Perm.refl _)
        rw [← HZ.out, List.append_assoc]
        exact (List.perm_middle (l₁ := giv t sq (xs.take j)) (a := (t, ((sq + j + 1 : Nat) : Int), x)) (l₂ := m)).symm
    · obtain rfl : j = n := by omega
      have HP := Lib.hid (And.intro hf hgo)
      clear hf hgo
      go_wp2_with fail
      go_end0
      refine ⟨rfl, G, ?_, HP.out.2⟩
      have h1 := HP.out.1
      rwa [List.take_of_length_le (by rw [HN.out.1]; exact Nat.le_refl _)] at h1


/-- Pile.First at the pins. -/
theorem fpinned_any {sq : Int} (thr : Int) (h : FreeIs p w F l sq m k) (hk : (k = [] ∧ thr = 9223372036854775807) ∨ ∃ s, k.Perm (thr :: s) ∧ ∀ y ∈ s, thr ≤ y) :
    Calls Tryz.prog 88 #[.pointer (some ⟨p, 3, none⟩)] w fun e w' => w' = w ∧ (e = .returned (.tuple #[.int .i64 thr, .bool true]) ∨ (thr = 9223372036854775807 ∧ ∃ x : Int, e = .returned (.tuple #[.int .i64 x, .bool false]))) := by
  obtain ⟨S, F0, h0, _, _⟩ := h.pins
  rcases hk with ⟨rfl, ht⟩ | ⟨s, hp, hm⟩
  · refine (first_none h0).mono ?_
    rintro e w' ⟨rfl, rfl⟩
    exact ⟨rfl, .inr ⟨ht, _, rfl⟩⟩
  · refine (first_some h0 hp hm).mono ?_
    rintro e w' ⟨rfl, rfl⟩
    exact ⟨rfl, .inl rfl⟩

/-- Pile.Put at the free ones, of one in a row that was just made for it. -/
theorem fback1_any {sq : Int} (x : Int) (h : FreeIs p w F l sq m k) (hl : l.length < 1000000) :
    Calls Tryz.prog 59 #[.pointer (some ⟨p, 0, none⟩), .slice (some ⟨w.heap.size, 0, none⟩) 1 1] (w.alloc (.cells #[.int .i64 x] 3)) fun e w' => e = .returned (.tuple #[]) ∧ ∃ F', FreeIs p w' F' (x :: l) sq m k ∧ Goes F w F' w' := by
  have hlt := h.lt
  have hb0 : Below w.heap.size w (w.alloc (.cells #[.int .i64 x] 3)) := (Below.refl _ _).alloc (Nat.le_refl _) _
  have h1 := h.below hb0
  obtain ⟨S, F0, h0, hsub, hback⟩ := h1.free
  have hro : ReadsO F0 (w.alloc (.cells #[.int .i64 x] 3)) (.slice (some ⟨w.heap.size, 0, none⟩) 1 1) ([x].map (.int .i64)) :=
    ⟨some ⟨w.heap.size, 0, none⟩, 1, rfl, fun _ => ⟨w.heap.size, 0, rfl, by simp, fun hF => by have := hlt _ (hsub _ hF); omega, fun j u hu => by
      rw [Nat.zero_add, (Has.made w 3 #[.int .i64 x]).cell j]
      simpa using hu⟩⟩
  refine (put_any h0 hro (by simp; omega)).mono ?_
  rintro e w' ⟨rfl, F', hpi, hk⟩
  obtain ⟨F2, hf, hg⟩ := hback _ _ _ hpi hk
  exact ⟨rfl, F2, hf, Goes.trans ⟨Kept.of_below hb0, fun k hk => .inl hk⟩ hg⟩
end
end Go.Proofs.YtmcfldcpmjdfbaaGreatDoor
