/-
  The calls of free pages, but Release and All. Free pages: Give and Release. Free pages: Release. Free pages of a law's own: what each call does; the calls of nil; a first call whose answer the document fixes.
-/
import Derived.Test.YtlalhinodmmgfaaGreatMg36
import Derived.Test.YtlalhinodmmgfaaGreatMg37
namespace Go.Proofs.YtlalhinodmmgfaaGreat
open Go.RowKit Go.Sort

section
variable {p : Nat} {w : World} {F : List Nat} {l k : List Int} {sq : Int} {m : List Due}

theorem ftake_some {x : Int} {s : List Int} (h : FreeIs p w F l sq m k) (hp : l.Perm (x :: s)) (hm : ∀ y ∈ s, x ≤ y) :
    Calls Tryz.prog 24 #[.pointer (some ⟨p, 0, none⟩)] w fun e w' => e = .returned (.tuple #[.int .i64 x, .bool true]) ∧ ∃ F', FreeIs p w' F' s sq m k ∧ Goes F w F' w' := by
  obtain ⟨S, F0, h0, _, hback⟩ := h.free
  have hc := take_some h0 hp hm
  have HB := Lib.hid hback
  clear hback h0 h hp hm
  go_enter Tryz.func24, Tryz.ntmps24
  go_wp2_with fail
  refine hc.mono ?_
  rintro e w1 ⟨rfl, hpi, hk⟩
  have H := Lib.hid (And.intro hpi hk)
  clear hpi hk hc
  go_wp2_with fail
  go_ret2
  exact ⟨rfl, HB.out _ _ _ H.out.1 ⟨H.out.2, fun k hk => .inl hk⟩⟩

theorem ftake_none (h : FreeIs p w F [] sq m k) :
    Calls Tryz.prog 24 #[.pointer (some ⟨p, 0, none⟩)] w fun e w' => e = .returned (.tuple #[.int .i64 0, .bool false]) ∧ w' = w := by
  obtain ⟨S, F0, h0, _, hback⟩ := h.free
  have hc := take_none h0
  clear hback h0 h
  go_enter Tryz.func24, Tryz.ntmps24
  go_wp2_with fail
  refine hc.mono ?_
  rintro e w1 ⟨rfl, rfl⟩
  clear hc
  go_wp2_with fail
  go_ret2
  exact ⟨rfl, rfl⟩

theorem fback_any {v : Value} {xs : List Int} (h : FreeIs p w F l sq m k) (hv : ReadsO F w v (xs.map (.int .i64))) (hl : xs.length + l.length ≤ 1000000) :
    Calls Tryz.prog 78 #[.pointer (some ⟨p, 0, none⟩), v] w fun e w' => e = .returned (.tuple #[]) ∧ ∃ F', FreeIs p w' F' (xs ++ l) sq m k ∧ Goes F w F' w' := by
  obtain ⟨S, F0, h0, hsub, hback⟩ := h.free
  have hc := put_any h0 (hv.mono (fun x hx => .inl (hsub x hx))) hl
  obtain ⟨A, c, rfl, _⟩ := hv
  have HB := Lib.hid hback
  clear hback h0 h hl hsub
  generalize (xs.map (Value.int .i64)).length = n at *
  go_enter Tryz.func78, Tryz.ntmps78
  go_wp2_with fail
  refine hc.mono ?_
  rintro e w1 ⟨rfl, F', hpi, hk⟩
  have H := Lib.hid (And.intro hpi hk)
  clear hpi hk hc
  go_wp2_with fail
  go_end0
  exact ⟨rfl, HB.out _ _ _ H.out.1 H.out.2⟩

theorem fpin_any (x : Int) (h : FreeIs p w F l sq m k) (hl : k.length < 1000000) :
    Calls Tryz.prog 22 #[.pointer (some ⟨p, 0, none⟩), .int .i64 x] w fun e w' => e = .returned (.tuple #[]) ∧ ∃ F', FreeIs p w' F' l sq m (x :: k) ∧ Goes F w F' w' := by
  have hlt := h.lt
  have hb0 : Below w.heap.size w (w.alloc (.cells #[.int .i64 x] 3)) := (Below.refl _ _).alloc (Nat.le_refl _) _
  have h1 := h.below hb0
  obtain ⟨S, F0, h0, hsub, hback⟩ := h1.pins
  have hro : ReadsO F0 (w.alloc (.cells #[.int .i64 x] 3)) (.slice (some ⟨w.heap.size, 0, none⟩) 1 1) ([x].map (.int .i64)) :=
    ⟨some ⟨w.heap.size, 0, none⟩, 1, rfl, fun _ => ⟨w.heap.size, 0, rfl, by simp, fun hF => by have := hlt _ (hsub _ hF); omega, fun j u hu => by
      rw [Nat.zero_add, (Has.made w 3 #[.int .i64 x]).cell j]
      simpa using hu⟩⟩
  have hc := put_any h0 hro (by simp; omega)
  have HB := Lib.hid (And.intro hback hb0)
  clear hback h0 h hl hsub hb0 h1 hro hlt
  go_enter Tryz.func22, Tryz.ntmps22
  go_wp2_with fail
  refine hc.mono ?_
  rintro e w1 ⟨rfl, F', hpi, hk⟩
  have H := Lib.hid (And.intro hpi hk)
  clear hpi hk hc
  go_wp2_with fail
  go_end0
  obtain ⟨F2, hf, hg⟩ := HB.out.1 _ _ _ H.out.1 H.out.2
  exact ⟨rfl, F2, hf, Goes.trans ⟨Kept.of_below HB.out.2, fun k hk => .inl hk⟩ hg⟩

theorem funpin_any (x : Int) (h : FreeIs p w F l sq m k) :
    Calls Tryz.prog 25 #[.pointer (some ⟨p, 0, none⟩), .int .i64 x] w fun e w' => e = .returned (.bool (decide (x ∈ k))) ∧ ∃ F', FreeIs p w' F' l sq m (k.erase x) ∧ Goes F w F' w' := by
  obtain ⟨S, F0, h0, hsub, hback⟩ := h.pins
  have hc := drop_any x h0
  have HB := Lib.hid hback
  generalize decide (x ∈ k) = b at *
  clear hback h0 h hsub
  go_enter Tryz.func25, Tryz.ntmps25
  go_wp2_with fail
  refine hc.mono ?_
  rintro e w1 ⟨rfl, hpi, hk⟩
  have H := Lib.hid (And.intro hpi hk)
  clear hpi hk hc
  go_wp2_with fail
  go_ret
  exact ⟨rfl, HB.out _ _ _ H.out.1 ⟨H.out.2, fun k hk => .inl hk⟩⟩

theorem flen_any (h : FreeIs p w F l sq m k) :
    Calls Tryz.prog 170 #[.pointer (some ⟨p, 0, none⟩)] w fun e w' => e = .returned (.int .i64 (l.length : Nat)) ∧ w' = w := by
  obtain ⟨S, F0, h0, _, _⟩ := h.free
  have hc := len_any h0
  clear h0 h
  generalize l.length = n at *
  go_enter Tryz.func170, Tryz.ntmps170
  go_wp2_with fail
  refine hc.mono ?_
  rintro e w1 ⟨rfl, rfl⟩
  go_wp2_with fail
  go_ret
  exact ⟨rfl, rfl⟩


theorem flist_any (h : FreeIs p w F l sq m k) :
    Calls Tryz.prog 26 #[.pointer (some ⟨p, 0, none⟩)] w fun e w' => ∃ v', e = .returned v' ∧ w'.ownsRow w.heap.size 3 1 v' l.length ((l.mergeSort leInt).map (.int .i64)) ∧ Below w.heap.size w w' := by
  obtain ⟨S, F0, h0, _, _⟩ := h.free
  have hc := list_any h0
  clear h0 h
  generalize l.length = n at *
  go_enter Tryz.func26, Tryz.ntmps26
  go_wp2_with fail
  refine hc.mono ?_
  rintro e w1 ⟨v', rfl, ho, hb⟩
  have H := Lib.hid (And.intro ho hb)
  obtain ⟨A', c', rfl⟩ := row_form ho
  clear ho hb hc
  go_wp2_with fail
  go_ret
  exact ⟨_, rfl, H.out.1, H.out.2⟩

theorem fnew_any {v : Value} {l : List Int} (h : ReadsO [] w v (l.map (.int .i64))) (hl : l.length ≤ 1000000) :
    Calls Tryz.prog 20 #[v] w fun e w' => e = .returned (.pointer (some ⟨w.heap.size, 0, none⟩)) ∧ (∃ F, FreeIs w.heap.size w' F l 0 [] [] ∧ ∀ x ∈ F, w.heap.size ≤ x) ∧ Below w.heap.size w w' := by
  have hb0 : Below w.heap.size w (w.alloc (.cells #[.slice none 0 0, .int .i64 0, .slice none 0 0, .slice none 0 0] 107)) := (Below.refl _ _).alloc (Nat.le_refl _) _
  have h0 : FreeIs w.heap.size (w.alloc (.cells #[.slice none 0 0, .int .i64 0, .slice none 0 0, .slice none 0 0] 107)) [w.heap.size] [] 0 [] [] :=
    ⟨_, _, _, Has.made w _ _, NRow.nil _ _, DRow.nil _ _, NRow.nil _ _, by simp [Value.ownBlock], by simp [Value.ownBlock], rfl⟩
  have hro : ReadsO [w.heap.size] (w.alloc (.cells #[.slice none 0 0, .int .i64 0, .slice none 0 0, .slice none 0 0] 107)) v (l.map (.int .i64)) := by
    obtain ⟨A, c, rfl, h⟩ := h
    refine ⟨A, c, rfl, fun hn => ?_⟩
    obtain ⟨b, off, rfl, hlt, _, hc⟩ := h hn
    exact ⟨b, off, rfl, Nat.lt_of_lt_of_le hlt hb0.size, by simp; omega, fun j u hu => (hb0.cell (p := ⟨b, off + j, none⟩) hlt).trans (hc j u hu)⟩
  have hc := fback_any h0 hro (by simpa using hl)
  obtain ⟨A, c, rfl, _⟩ := h
  have HB := Lib.hid hb0
  clear h0 hro hb0 hl
  rw [List.append_nil] at hc
  rw [List.length_map] at *
  generalize l.length = n at *
  go_enter Tryz.func20, Tryz.ntmps20
  go_wp2_with fail
  refine hc.mono ?_
  rintro e w1 ⟨rfl, F', hf, hg⟩
  have H := Lib.hid (And.intro hf hg)
  clear hf hg hc
  go_wp2_with fail
  go_ret
  obtain ⟨hf, hg⟩ := H.out
  refine ⟨rfl, ⟨F', hf, fun x hx => (hg.2 x hx).elim (fun h => by simp at h; omega) (fun h => by have := HB.out.size; omega)⟩, HB.out.trans (hg.1.below (by have := HB.out.size; omega) (by simp))⟩
end
end Go.Proofs.YtlalhinodmmgfaaGreat

namespace Go.Proofs.YtlalhinodmmgfaaGreat
open Go.RowKit Go.Sort

/-- What waits of one Give: its number, the Seqs behind sq, the pages. -/
def giv (t : Int) (sq : Nat) (xs : List Int) : List Due := xs.zipIdx.map fun u => (t, ((sq + u.2 + 1 : Nat) : Int), u.1)
theorem giv_snoc (t : Int) (sq : Nat) (xs : List Int) (x : Int) : giv t sq (xs ++ [x]) = giv t sq xs ++ [(t, ((sq + xs.length + 1 : Nat) : Int), x)] := by
  unfold giv
  rw [List.zipIdx_append]
  simp
theorem length_giv (t : Int) (sq : Nat) (xs : List Int) : (giv t sq xs).length = xs.length := by simp [giv]
theorem giv_one (t : Int) (sq : Nat) (x : Int) : giv t sq [x] = [(t, ((sq + 1 : Nat) : Int), x)] := by simp [giv]

def dueOf (thr : Int) (m : List Due) : List Due := m.filter fun d => decide (d.1 ≤ thr)
def lateOf (thr : Int) (m : List Due) : List Due := m.filter fun d => decide (thr < d.1)
def whats (m : List Due) : List Int := m.map fun d => d.2.2

theorem parts_of {thr : Int} {T s m : List Due} (h : (T ++ s).Perm m) (hT : ∀ d ∈ T, d.1 ≤ thr) (hs : ∀ d ∈ s, thr < d.1) : T.Perm (dueOf thr m) ∧ s.Perm (lateOf thr m) := by
  have h1 := h.filter (fun d => decide (d.1 ≤ thr))
  have h2 := h.filter (fun d => decide (thr < d.1))
  rw [List.filter_append] at h1 h2
  rw [List.filter_eq_self.2 (by intro d hd; simpa using hT d hd), List.filter_eq_nil_iff.2 (by intro d hd; have := hs d hd; simp; omega), List.append_nil] at h1
  rw [List.filter_eq_nil_iff.2 (by intro d hd; have := hT d hd; simp; omega), List.filter_eq_self.2 (by intro d hd; simpa using hs d hd), List.nil_append] at h2
  exact ⟨h1, h2⟩

section
variable {p : Nat} {w : World} {F : List Nat} {l k : List Int} {m : List Due}

set_option maxRecDepth 100000 in
set_option maxHeartbeats 1000000 in
theorem fgive_any {sq : Nat} {v : Value} {xs : List Int} (t : Int) (h : FreeIs p w F l sq m k) (hv : ReadsO F w v (xs.map (.int .i64))) (hl : xs.length + m.length ≤ 1000000) (hsq : xs.length + sq ≤ 1000000) :
    Calls Tryz.prog 21 #[.pointer (some ⟨p, 0, none⟩), .int .i64 t, v] w fun e w' => e = .returned (.tuple #[]) ∧ ∃ F', FreeIs p w' F' l ((sq + xs.length : Nat) : Int) (giv t sq xs ++ m) k ∧ Goes F w F' w' := by
  obtain ⟨A, c, rfl, hr⟩ := hv
  rw [List.length_map] at *
  obtain ⟨n, hn⟩ : ∃ n, xs.length = n := ⟨_, rfl⟩
  have HR := Lib.hid (show ReadsO F w (.slice A n c) (xs.map (.int .i64)) from ⟨A, c, by rw [List.length_map, hn], by rw [List.length_map]; exact hr⟩)
  have HN := Lib.hid (And.intro hn (And.intro hl hsq))
  have H := Lib.hid h
  rw [hn]
  have hnb : n ≤ 1000000 := by omega
  clear h hr hl hsq hn
  go_enter Tryz.func21, Tryz.ntmps21
  go_wp2_with fail
  go_loopg [12] n (fun g i wr => ∃ (j : Nat), i = .int .i64 j ∧ j + g = n ∧ ∃ G, FreeIs p wr G l ((sq + j : Nat) : Int) (giv t sq (xs.take j) ++ m) k ∧ Goes F w G wr)
  case atStart => exact ⟨0, rfl, by omega, F, by simpa [giv] using H.out, Goes.refl _ _⟩
  case round =>
    obtain ⟨j, rfl, hjg, G, hf, hgo⟩ := hrel
    by_cases hlt : j < n
    · have hlt' : j < xs.length := by rw [HN.out.1]; exact hlt
      have hro := HR.out.goes hgo
      obtain ⟨A', c', hA, hro⟩ := hro
      obtain ⟨b, off, hAb, hbl, hbG, hcell⟩ := hro (by rw [List.length_map]; omega)
      simp only [Value.slice.injEq] at hA
      obtain ⟨rfl, hA2, rfl⟩ := hA
      subst hAb
      have hck := hcell j (.int .i64 xs[j]) (by simp [hlt'])
      obtain ⟨S, F0, h0, hsub, hback⟩ := hf.waits
      have hlj : (giv t sq (xs.take j) ++ m).length < 1000000 := by
        have h1 := HN.out.2.1
        rw [List.length_append, length_giv]
        simp
        omega
      have hpu := lput_any t xs[j] h0 hlj (by have := HN.out.2.2; omega)
      have e1 : (xs.take (j + 1)) = xs.take j ++ [xs[j]] := by rw [List.take_succ_eq_append_getElem hlt']
      have e2 : giv t sq (xs.take (j + 1)) = giv t sq (xs.take j) ++ [(t, ((sq + j + 1 : Nat) : Int), xs[j])] := by
        rw [e1, giv_snoc]
        have : (xs.take j).length = j := by simp; omega
        rw [this]
      have HE := Lib.hid (And.intro e2 (And.intro hback hgo))
      generalize hx : xs[j] = x at *
      have k0 : (0 : Int) ≤ j := by omega
      have k1 : (j : Int) < n := by omega
      clear hgo hf h0 hsub hback e1 e2 hcell hbl hbG hA2 hro hx hlj
      obtain ⟨z, hz⟩ : ∃ z : Int, ((sq + j + 1 : Nat) : Int) = z := ⟨_, rfl⟩
      have HZ := Lib.hid hz
      rw [hz] at hpu
      clear hz
      go_wp2_with fail
      refine hpu.mono ?_
      rintro e w2 ⟨rfl, G', hp2, hg2⟩
      have H2 := Lib.hid (And.intro hp2 hg2)
      clear hp2 hg2 hpu
      go_wp2
      go_roundg (n - (j + 1))
      case measure => omega
      case rel =>
        obtain ⟨e2, hback, hgo⟩ := HE.out
        obtain ⟨F2, hf2, hg2⟩ := hback _ _ _ _ H2.out.1 H2.out.2
        refine ⟨j + 1, by go_num, by omega, F2, ?_, hgo.trans hg2⟩
        rw [e2, show ((sq + (j + 1) : Nat) : Int) = z from HZ.out]
        refine hf2.perm (List.Perm.refl _) ?_ (List.Perm.refl _)
        rw [← HZ.out, List.append_assoc]
        exact (List.perm_middle (l₁ := giv t sq (xs.take j)) (a := (t, ((sq + j + 1 : Nat) : Int), x)) (l₂ := m)).symm
    · obtain rfl : j = n := by omega
      have HP := Lib.hid (And.intro hf hgo)
      clear hf hgo
      go_wp2_with fail
      go_end0
      refine ⟨rfl, G, ?_, HP.out.2⟩
      have h1 := HP.out.1
      rwa [List.take_of_length_le (by rw [HN.out.1]; exact Nat.le_refl _)] at h1

/-- The next one that waits, if it is due. -/
theorem fnext_any {sq : Int} (now : Int) (h : FreeIs p w F l sq m k) (hd : Distinct m) :
    Calls Tryz.prog 82 #[.pointer (some ⟨p, 1, none⟩), .int .i64 now] w fun e w' => ∃ (b : Bool) (x : Due) (s : List Due) (F' : List Nat), e = .returned (.tuple #[dval x, .bool b]) ∧ FreeIs p w' F' l sq s k ∧ Goes F w F' w' ∧
      ((b = true ∧ m.Perm (x :: s) ∧ x.1 ≤ now ∧ Distinct s) ∨ (b = false ∧ s = m ∧ ∀ d ∈ m, now < d.1)) := by
  obtain ⟨S, F0, h0, _, hback⟩ := h.waits
  by_cases he : m = []
  · subst he
    refine (ltake_none now h0).mono ?_
    rintro e w' ⟨rfl, hb⟩
    exact ⟨false, (0, 0, 0), [], F, rfl, h.below hb, ⟨Kept.of_below hb, fun x hx => .inl hx⟩, .inr ⟨rfl, rfl, by simp⟩⟩
  · obtain ⟨x, s, hp, hm, hds⟩ := due_least m he hd
    by_cases hx : x.1 ≤ now
    · refine (ltake_due now h0 hp hm hx).mono ?_
      rintro e w' ⟨rfl, hl, hk⟩
      obtain ⟨F', hf, hg⟩ := hback _ _ _ _ hl ⟨hk, fun x hx => .inl hx⟩
      exact ⟨true, x, s, F', rfl, hf, hg, .inl ⟨rfl, hp, hx, hds⟩⟩
    · refine (ltake_late now h0 hp hm (by omega)).mono ?_
      rintro e w' ⟨rfl, hb⟩
      refine ⟨false, (0, 0, 0), m, F, rfl, h.below hb, ⟨Kept.of_below hb, fun x hx => .inl hx⟩, .inr ⟨rfl, rfl, fun d hdm => ?_⟩⟩
      rcases List.mem_cons.1 (hp.mem_iff.1 hdm) with rfl | hd'
      · omega
      · have := hm d hd'
        simp only [ltDue, decide_eq_true_eq] at this
        omega

/-- Pile.First at the pins. -/
theorem fpinned_any {sq : Int} (thr : Int) (h : FreeIs p w F l sq m k) (hk : (k = [] ∧ thr = 9223372036854775807) ∨ ∃ s, k.Perm (thr :: s) ∧ ∀ y ∈ s, thr ≤ y) :
    Calls Tryz.prog 81 #[.pointer (some ⟨p, 3, none⟩)] w fun e w' => w' = w ∧ (e = .returned (.tuple #[.int .i64 thr, .bool true]) ∨ (thr = 9223372036854775807 ∧ ∃ x : Int, e = .returned (.tuple #[.int .i64 x, .bool false]))) := by
  obtain ⟨S, F0, h0, _, _⟩ := h.pins
  rcases hk with ⟨rfl, ht⟩ | ⟨s, hp, hm⟩
  · refine (first_none h0).mono ?_
    rintro e w' ⟨rfl, rfl⟩
    exact ⟨rfl, .inr ⟨ht, _, rfl⟩⟩
  · refine (first_some h0 hp hm).mono ?_
    rintro e w' ⟨rfl, rfl⟩
    exact ⟨rfl, .inl rfl⟩

/-- Pile.Put at the free ones, of one in a row that was just made for it. -/
theorem fback1_any {sq : Int} (x : Int) (h : FreeIs p w F l sq m k) (hl : l.length < 1000000) :
    Calls Tryz.prog 80 #[.pointer (some ⟨p, 0, none⟩), .slice (some ⟨w.heap.size, 0, none⟩) 1 1] (w.alloc (.cells #[.int .i64 x] 3)) fun e w' => e = .returned (.tuple #[]) ∧ ∃ F', FreeIs p w' F' (x :: l) sq m k ∧ Goes F w F' w' := by
  have hlt := h.lt
  have hb0 : Below w.heap.size w (w.alloc (.cells #[.int .i64 x] 3)) := (Below.refl _ _).alloc (Nat.le_refl _) _
  have h1 := h.below hb0
  obtain ⟨S, F0, h0, hsub, hback⟩ := h1.free
  have hro : ReadsO F0 (w.alloc (.cells #[.int .i64 x] 3)) (.slice (some ⟨w.heap.size, 0, none⟩) 1 1) ([x].map (.int .i64)) :=
    ⟨some ⟨w.heap.size, 0, none⟩, 1, rfl, fun _ => ⟨w.heap.size, 0, rfl, by simp, fun hF => by have := hlt _ (hsub _ hF); omega, fun j u hu => by
      rw [Nat.zero_add, (Has.made w 3 #[.int .i64 x]).cell j]
      simpa using hu⟩⟩
  refine (put_any h0 hro (by simp; omega)).mono ?_
  rintro e w' ⟨rfl, F', hpi, hk⟩
  obtain ⟨F2, hf, hg⟩ := hback _ _ _ hpi hk
  exact ⟨rfl, F2, hf, Goes.trans ⟨Kept.of_below hb0, fun k hk => .inl hk⟩ hg⟩
end
end Go.Proofs.YtlalhinodmmgfaaGreat

namespace Go.Proofs.YtlalhinodmmgfaaGreat
open Go.RowKit Go.Sort

/-- Where Release stands: T has come, x is next (if b), s waits. -/
def RelAt (thr : Int) (w : World) (F : List Nat) (p : Nat) (l k : List Int) (sq : Int) (m : List Due) (g : Nat) (n d ok : Value) (wr : World) : Prop :=
  ∃ (T s : List Due) (x : Due) (b : Bool) (G : List Nat) (D : Nat), n = .int .i64 (T.length : Nat) ∧ d = .pointer (some ⟨D, 0, none⟩) ∧ ok = .bool b ∧ Has wr D 111 #[.int .i64 x.1, .int .i64 x.2.1, .int .i64 x.2.2] ∧ D ∉ G ∧ w.heap.size ≤ D ∧
    FreeIs p wr G (whats T ++ l) sq s k ∧ Goes F w G wr ∧ (∀ y ∈ T, y.1 ≤ thr) ∧ Distinct s ∧
    ((b = true ∧ (T ++ x :: s).Perm m ∧ x.1 ≤ thr ∧ s.length + 1 ≤ g) ∨ (b = false ∧ (T ++ s).Perm m ∧ ∀ y ∈ s, thr < y.1))

set_option maxRecDepth 100000 in
set_option maxHeartbeats 2000000 in
theorem frelease_any {p : Nat} {w : World} {F : List Nat} {l k : List Int} {m : List Due} {sq : Int} (thr : Int) (h : FreeIs p w F l sq m k) (hd : Distinct m) (hk : (k = [] ∧ thr = 9223372036854775807) ∨ ∃ s, k.Perm (thr :: s) ∧ ∀ y ∈ s, thr ≤ y) (hfew : l.length + m.length ≤ 1000000) :
    Calls Tryz.prog 23 #[.pointer (some ⟨p, 0, none⟩)] w fun e w' => e = .returned (.int .i64 ((dueOf thr m).length : Nat)) ∧ ∃ F', FreeIs p w' F' (whats (dueOf thr m) ++ l) sq (lateOf thr m) k ∧ Goes F w F' w' := by
  suffices HH : ∀ R : Ending → World → Prop, (R = fun e w' => e = .returned (.int .i64 ((dueOf thr m).length : Nat)) ∧ ∃ F', FreeIs p w' F' (whats (dueOf thr m) ++ l) sq (lateOf thr m) k ∧ Goes F w F' w') →
      Calls Tryz.prog 23 #[.pointer (some ⟨p, 0, none⟩)] w R from HH _ rfl
  intro R hR
  have HRR := Lib.hid hR
  clear hR
  have hf := fpinned_any thr h hk
  have H := Lib.hid (And.intro h (And.intro hd hfew))
  have hnx := fnext_any thr h hd
  clear h hd hk hfew
  go_enter Tryz.func23, Tryz.ntmps23
  go_wp2_with fail
  refine hf.mono ?_
  rintro e wq ⟨hwq, hb⟩
  have hwq := hwq.symm
  subst hwq
  clear hf
  rcases hb with rfl | ⟨ht, x0, rfl⟩
  · go_wp2_with fail
    refine hnx.mono ?_
    rintro e w1 ⟨b, x, s, F', rfl, hfr, hgo, hb⟩
    clear hnx
    obtain ⟨h, hd, hfew⟩ := H.out
    have hb1 : Below w1.heap.size w1 (w1.alloc (.cells #[.int .i64 x.1, .int .i64 x.2.1, .int .i64 x.2.2] 111)) := (Below.refl _ _).alloc (Nat.le_refl _) _
    have hst : RelAt thr w F p l k sq m (s.length + 1) (.int .i64 0) (.pointer (some ⟨w1.heap.size, 0, none⟩)) (.bool b) (w1.alloc (.cells #[.int .i64 x.1, .int .i64 x.2.1, .int .i64 x.2.2] 111)) := by
      refine ⟨[], s, x, b, F', w1.heap.size, rfl, rfl, rfl, Has.made _ _ _, fun hx => by have := hfr.lt _ hx; omega, hgo.1.size, by simpa [whats] using hfr.below hb1, ⟨hgo.1.alloc _, hgo.2⟩, by simp, ?_, ?_⟩
      · rcases hb with ⟨_, _, _, h⟩ | ⟨_, rfl, _⟩
        · exact h
        · exact hd
      · rcases hb with ⟨h1, h2, h3, _⟩ | ⟨h1, rfl, h2⟩
        · exact .inl ⟨h1, by simpa using h2.symm, h3, Nat.le_refl _⟩
        · exact .inr ⟨h1, List.Perm.refl _, h2⟩
    have HS := Lib.hid hst
    clear hst hb1 h hd hfew hfr hgo hb
    unfold dval
    go_wp2_with fail
    go_loopg [5, 6, 7] (s.length + 1) (RelAt thr w F p l k sq m)
    case atStart => exact HS.out
    case round =>
      clear HS
      obtain ⟨T, s, x, b, G, D, rfl, rfl, rfl, hD, hDG, hwD, hfr, hgo, hT, hds, hb⟩ := hrel
      cases b
      · have hb' : (T ++ s).Perm m ∧ ∀ y ∈ s, thr < y.1 := by
          rcases hb with ⟨h, _⟩ | ⟨_, h⟩
          · cases h
          · exact h
        obtain ⟨h1, h2⟩ := parts_of hb'.1 hT hb'.2
        have hlen := h1.length_eq
        have HF := Lib.hid (And.intro (hfr.perm ((h1.map fun d : Due => d.2.2).append_right l) h2 (List.Perm.refl _)) hgo)
        rw [hlen]
        clear hb hb' h1 h2 hlen hfr hgo hT hds hD hDG hwD
        go_wp2_with fail
        have hR := HRR.out
        clear HRR
        subst hR
        exact ⟨rfl, G, HF.out.1, HF.out.2⟩
      · have hb' : (T ++ x :: s).Perm m ∧ x.1 ≤ thr ∧ s.length + 1 ≤ gk := by
          rcases hb with ⟨_, h⟩ | ⟨h, _⟩
          · exact h
          · cases h
        clear hb
        have hcnt : T.length + s.length + 1 = m.length := by have := hb'.1.length_eq; simp at this; omega
        have hfew := H.out.2.2
        have hpu := fback1_any x.2.2 (hfr.kept (G := []) (Kept.refl _ _).drew (by simp)) (by simp [whats]; omega)
        have c0 := hD.cell 0
        have c1 := hD.cell 1
        have c2 := hD.cell 2
        simp at c0 c1 c2
        have hS : wr.drew.cell? ⟨D, 2, none⟩ = some (.int .i64 x.2.2) := c2
        have hDin := hD.inside
        have hS1 : (wr.alloc (.cells #[.int .i64 x.2.2] 3)).drew.cell? ⟨D, 2, none⟩ = some (.int .i64 x.2.2) := by
          have := (hD.alloc (.cells #[.int .i64 x.2.2] 3)).cell 2
          simpa using this
        have HR := Lib.hid (And.intro hD (And.intro hDG (And.intro hwD (And.intro hgo (And.intro hT (And.intro hds hb'))))))
        have hTn : T.length ≤ 1000000 := by omega
        obtain ⟨n, hn⟩ : ∃ n, T.length = n := ⟨_, rfl⟩
        have HN := Lib.hid hn
        rw [hn] at hTn
        rw [hn]
        clear hn hD hDG hwD hgo hT hds hb' hcnt hfew hfr
        go_wp2_with fail
        refine wp_region_tills (fun w' => w'.cell? ⟨D, 2, none⟩ = some (.int .i64 x.2.2)) 6 (by kernel_rfl) ?_
        refine till_takeAt 36 (i := 0) (v := .pointer (some ⟨p, 0, none⟩)) rfl rfl (by kernel_rfl) (by kernel_rfl) (by kernel_rfl) (by kernel_rfl) (by kernel_rfl) (fun _ _ _ h => h) (Or.inl ⟨by rfl, fun w' hw' => by obtain q1 := hw'; go_simp⟩) hS ?_
        simp only [List.setIfInBounds_toArray, List.set_cons_zero, List.set_cons_succ]
        refine till_takeAt 37 (i := 1) (v := .pointer (some ⟨p, 0, none⟩)) rfl rfl (by kernel_rfl) (by kernel_rfl) (by kernel_rfl) (by kernel_rfl) (by kernel_rfl) (fun _ _ _ h => h) (Or.inl ⟨by rfl, fun w' hw' => by obtain q1 := hw'; go_simp⟩) hS ?_
        simp only [List.setIfInBounds_toArray, List.set_cons_zero, List.set_cons_succ]
        refine till_takeAt 38 (i := 2) (v := .pointer (some ⟨p, 0, none⟩)) rfl rfl (by kernel_rfl) (by kernel_rfl) (by kernel_rfl) (by kernel_rfl) (by kernel_rfl) (fun _ _ _ h => h) (Or.inl ⟨by rfl, fun w' hw' => by obtain q1 := hw'; go_simp⟩) hS ?_
        simp only [List.setIfInBounds_toArray, List.set_cons_zero, List.set_cons_succ]
        refine till_takeAt 39 (i := 3) (v := .pointer (some ⟨D, 2, none⟩)) rfl rfl (by kernel_rfl) (by kernel_rfl) (by kernel_rfl) (by kernel_rfl) (by kernel_rfl) (fun _ _ _ h => h) (Or.inl ⟨by rfl, fun w' hw' => by obtain q1 := hw'; go_simp⟩) hS ?_
        simp only [List.setIfInBounds_toArray, List.set_cons_zero, List.set_cons_succ]
        refine till_takeAt 40 (i := 4) (v := .int .i64 x.2.2) rfl rfl (by kernel_rfl) (by kernel_rfl) (by kernel_rfl) (by kernel_rfl) (by kernel_rfl) (fun _ _ _ h => h) (Or.inl ⟨by rfl, fun w' hw' => by obtain q1 := hw'; go_simp⟩) hS ?_
        simp only [List.setIfInBounds_toArray, List.set_cons_zero, List.set_cons_succ]
        refine till_one (i := 5) (by kernel_rfl) rfl rfl (fun K hK => ?_)
        go_simp
        refine hK _ _ ⟨fun _ => hS1, ?_⟩
        clear hK K hS hS1
        refine till_one (i := 6) (by kernel_rfl) rfl rfl (fun K hK => ?_)
        go_simp
        refine hpu.mono ?_
        rintro e w2 ⟨rfl, G2, hf2, hg2⟩
        refine hK _ _ ⟨fun h => absurd h (by omega), till_done (by kernel_rfl) ?_ _⟩
        clear hK K hpu
        have hg2 := Goes.trans (⟨(Kept.refl G _).drew, fun k hk => .inl hk⟩ : Goes G wr G wr.drew) hg2
        obtain ⟨hD, hDG, hwD, hgo, hT, hds, hb'⟩ := HR.out
        have hD2 := hD.kept hg2.1 hDG
        have c0 := hD2.cell 0
        have c1 := hD2.cell 1
        have c2 := hD2.cell 2
        simp at c0 c1 c2
        have hb2 : Below w2.heap.size w2 (w2.alloc (.cells #[.int .i64 x.1, .int .i64 x.2.1, .int .i64 x.2.2] 111)) := (Below.refl _ _).alloc (Nat.le_refl _) _
        have hnx := fnext_any thr (hf2.below hb2) hds
        have H2 := Lib.hid (And.intro hf2 (And.intro hg2 hb2))
        clear hD hDG hwD hgo hT hds hb' hD2 hf2 hg2 hb2
        go_wp2_with fail
        refine hnx.mono ?_
        rintro e w3 ⟨b, y, s2, G3, rfl, hf3, hg3, hb3⟩
        clear hnx
        obtain ⟨hD, hDG, hwD, hgo, hT, hds, hb'⟩ := HR.out
        obtain ⟨hf2, hg2, hb2⟩ := H2.out
        have hnG : w2.heap.size ∉ G2 := fun hx => by have := hf2.lt _ hx; omega
        have hnG3 : w2.heap.size ∉ G3 := fun hx => (hg3.2 _ hx).elim hnG (fun h => by simp at h; omega)
        have hm3 := (Has.made w2 111 #[.int .i64 x.1, .int .i64 x.2.1, .int .i64 x.2.2]).kept hg3.1 hnG
        have e0 := hm3.cell 0
        have e1 := hm3.cell 1
        have e2 := hm3.cell 2
        have f0 := hm3.free 0
        have f1 := hm3.free 1
        have f2 := hm3.free 2
        simp at e0 e1 e2
        have hgw : Goes F w G3 w3 := (hgo.trans hg2).trans (Goes.trans ⟨Kept.of_below hb2, fun k hk => .inl hk⟩ hg3)
        have hwD2 : w.heap.size ≤ w2.heap.size := (hgo.trans hg2).1.size
        have hst : RelAt thr w F p l k sq m (s.length) (.int .i64 ((n + 1 : Nat) : Int)) (.pointer (some ⟨w2.heap.size, 0, none⟩)) (.bool b) (((w3.setCell ⟨w2.heap.size, 0, none⟩ (.int .i64 y.1)).setCell ⟨w2.heap.size, 1, none⟩ (.int .i64 y.2.1)).setCell ⟨w2.heap.size, 2, none⟩ (.int .i64 y.2.2)) := by
          have hk2 : Kept [w2.heap.size] w3 (((w3.setCell ⟨w2.heap.size, 0, none⟩ (.int .i64 y.1)).setCell ⟨w2.heap.size, 1, none⟩ (.int .i64 y.2.1)).setCell ⟨w2.heap.size, 2, none⟩ (.int .i64 y.2.2)) := (((Kept.refl _ _).setCell (by simp) _).setCell (by simp) _).setCell (by simp) _
          refine ⟨x :: T, s2, y, b, G3, w2.heap.size, by rw [List.length_cons, HN.out], rfl, rfl, ?_, hnG3, hwD2, ?_, ⟨?_, hgw.2⟩, ?_, ?_, ?_⟩
          · have := ((hm3.put 0 (.int .i64 y.1)).put 1 (.int .i64 y.2.1)).put 2 (.int .i64 y.2.2)
            simpa using this
          · simpa [whats] using hf3.kept hk2 (fun z hz hz2 => by simp at hz2; subst hz2; exact hnG3 hz)
          · exact (((hgw.1.setCell (.inr hwD2) _).setCell (.inr hwD2) _).setCell (.inr hwD2) _)
          · intro z hz
            rcases List.mem_cons.1 hz with rfl | hz
            · exact hb'.2.1
            · exact hT z hz
          · rcases hb3 with ⟨_, _, _, h⟩ | ⟨_, rfl, _⟩
            · exact h
            · exact hds
          · have hpm : (x :: T ++ s).Perm m := (List.perm_middle (l₁ := T) (a := x) (l₂ := s)).symm.trans hb'.1
            rcases hb3 with ⟨h1, h2, h3, _⟩ | ⟨h1, rfl, h2⟩
            · exact .inl ⟨h1, (List.Perm.append_left _ h2.symm).trans hpm, h3, by have := h2.length_eq; simp at this; omega⟩
            · exact .inr ⟨h1, hpm, h2⟩
        have HS := Lib.hid hst
        have hle : w2.heap.size < w3.heap.size := hm3.inside
        have hsg := hb'.2.2
        clear hst hD hDG hwD hgo hT hds hb' hf2 hg2 hb2 hnG hnG3 hm3 hgw hwD2 hf3 hg3 hb3
        unfold dval
        go_wp2
        go_roundg s.length
        case measure => omega
        case rel => exact HS.out
  · subst ht
    go_wp2_with fail
    generalize (9223372036854775807 : Int) = thr at *
    refine hnx.mono ?_
    rintro e w1 ⟨b, x, s, F', rfl, hfr, hgo, hb⟩
    clear hnx
    obtain ⟨h, hd, hfew⟩ := H.out
    have hb1 : Below w1.heap.size w1 (w1.alloc (.cells #[.int .i64 x.1, .int .i64 x.2.1, .int .i64 x.2.2] 111)) := (Below.refl _ _).alloc (Nat.le_refl _) _
    have hst : RelAt thr w F p l k sq m (s.length + 1) (.int .i64 0) (.pointer (some ⟨w1.heap.size, 0, none⟩)) (.bool b) (w1.alloc (.cells #[.int .i64 x.1, .int .i64 x.2.1, .int .i64 x.2.2] 111)) := by
      refine ⟨[], s, x, b, F', w1.heap.size, rfl, rfl, rfl, Has.made _ _ _, fun hx => by have := hfr.lt _ hx; omega, hgo.1.size, by simpa [whats] using hfr.below hb1, ⟨hgo.1.alloc _, hgo.2⟩, by simp, ?_, ?_⟩
      · rcases hb with ⟨_, _, _, h⟩ | ⟨_, rfl, _⟩
        · exact h
        · exact hd
      · rcases hb with ⟨h1, h2, h3, _⟩ | ⟨h1, rfl, h2⟩
        · exact .inl ⟨h1, by simpa using h2.symm, h3, Nat.le_refl _⟩
        · exact .inr ⟨h1, List.Perm.refl _, h2⟩
    have HS := Lib.hid hst
    clear hst hb1 h hd hfew hfr hgo hb
    unfold dval
    go_wp2_with fail
    go_loopg [5, 6, 7] (s.length + 1) (RelAt thr w F p l k sq m)
    case atStart => exact HS.out
    case round =>
      clear HS
      obtain ⟨T, s, x, b, G, D, rfl, rfl, rfl, hD, hDG, hwD, hfr, hgo, hT, hds, hb⟩ := hrel
      cases b
      · have hb' : (T ++ s).Perm m ∧ ∀ y ∈ s, thr < y.1 := by
          rcases hb with ⟨h, _⟩ | ⟨_, h⟩
          · cases h
          · exact h
        obtain ⟨h1, h2⟩ := parts_of hb'.1 hT hb'.2
        have hlen := h1.length_eq
        have HF := Lib.hid (And.intro (hfr.perm ((h1.map fun d : Due => d.2.2).append_right l) h2 (List.Perm.refl _)) hgo)
        rw [hlen]
        clear hb hb' h1 h2 hlen hfr hgo hT hds hD hDG hwD
        go_wp2_with fail
        have hR := HRR.out
        clear HRR
        subst hR
        exact ⟨rfl, G, HF.out.1, HF.out.2⟩
      · have hb' : (T ++ x :: s).Perm m ∧ x.1 ≤ thr ∧ s.length + 1 ≤ gk := by
          rcases hb with ⟨_, h⟩ | ⟨h, _⟩
          · exact h
          · cases h
        clear hb
        have hcnt : T.length + s.length + 1 = m.length := by have := hb'.1.length_eq; simp at this; omega
        have hfew := H.out.2.2
        have hpu := fback1_any x.2.2 (hfr.kept (G := []) (Kept.refl _ _).drew (by simp)) (by simp [whats]; omega)
        have c0 := hD.cell 0
        have c1 := hD.cell 1
        have c2 := hD.cell 2
        simp at c0 c1 c2
        have hS : wr.drew.cell? ⟨D, 2, none⟩ = some (.int .i64 x.2.2) := c2
        have hDin := hD.inside
        have hS1 : (wr.alloc (.cells #[.int .i64 x.2.2] 3)).drew.cell? ⟨D, 2, none⟩ = some (.int .i64 x.2.2) := by
          have := (hD.alloc (.cells #[.int .i64 x.2.2] 3)).cell 2
          simpa using this
        have HR := Lib.hid (And.intro hD (And.intro hDG (And.intro hwD (And.intro hgo (And.intro hT (And.intro hds hb'))))))
        have hTn : T.length ≤ 1000000 := by omega
        obtain ⟨n, hn⟩ : ∃ n, T.length = n := ⟨_, rfl⟩
        have HN := Lib.hid hn
        rw [hn] at hTn
        rw [hn]
        clear hn hD hDG hwD hgo hT hds hb' hcnt hfew hfr
        go_wp2_with fail
        refine wp_region_tills (fun w' => w'.cell? ⟨D, 2, none⟩ = some (.int .i64 x.2.2)) 6 (by kernel_rfl) ?_
        refine till_takeAt 36 (i := 0) (v := .pointer (some ⟨p, 0, none⟩)) rfl rfl (by kernel_rfl) (by kernel_rfl) (by kernel_rfl) (by kernel_rfl) (by kernel_rfl) (fun _ _ _ h => h) (Or.inl ⟨by rfl, fun w' hw' => by obtain q1 := hw'; go_simp⟩) hS ?_
        simp only [List.setIfInBounds_toArray, List.set_cons_zero, List.set_cons_succ]
        refine till_takeAt 37 (i := 1) (v := .pointer (some ⟨p, 0, none⟩)) rfl rfl (by kernel_rfl) (by kernel_rfl) (by kernel_rfl) (by kernel_rfl) (by kernel_rfl) (fun _ _ _ h => h) (Or.inl ⟨by rfl, fun w' hw' => by obtain q1 := hw'; go_simp⟩) hS ?_
        simp only [List.setIfInBounds_toArray, List.set_cons_zero, List.set_cons_succ]
        refine till_takeAt 38 (i := 2) (v := .pointer (some ⟨p, 0, none⟩)) rfl rfl (by kernel_rfl) (by kernel_rfl) (by kernel_rfl) (by kernel_rfl) (by kernel_rfl) (fun _ _ _ h => h) (Or.inl ⟨by rfl, fun w' hw' => by obtain q1 := hw'; go_simp⟩) hS ?_
        simp only [List.setIfInBounds_toArray, List.set_cons_zero, List.set_cons_succ]
        refine till_takeAt 39 (i := 3) (v := .pointer (some ⟨D, 2, none⟩)) rfl rfl (by kernel_rfl) (by kernel_rfl) (by kernel_rfl) (by kernel_rfl) (by kernel_rfl) (fun _ _ _ h => h) (Or.inl ⟨by rfl, fun w' hw' => by obtain q1 := hw'; go_simp⟩) hS ?_
        simp only [List.setIfInBounds_toArray, List.set_cons_zero, List.set_cons_succ]
        refine till_takeAt 40 (i := 4) (v := .int .i64 x.2.2) rfl rfl (by kernel_rfl) (by kernel_rfl) (by kernel_rfl) (by kernel_rfl) (by kernel_rfl) (fun _ _ _ h => h) (Or.inl ⟨by rfl, fun w' hw' => by obtain q1 := hw'; go_simp⟩) hS ?_
        simp only [List.setIfInBounds_toArray, List.set_cons_zero, List.set_cons_succ]
        refine till_one (i := 5) (by kernel_rfl) rfl rfl (fun K hK => ?_)
        go_simp
        refine hK _ _ ⟨fun _ => hS1, ?_⟩
        clear hK K hS hS1
        refine till_one (i := 6) (by kernel_rfl) rfl rfl (fun K hK => ?_)
        go_simp
        refine hpu.mono ?_
        rintro e w2 ⟨rfl, G2, hf2, hg2⟩
        refine hK _ _ ⟨fun h => absurd h (by omega), till_done (by kernel_rfl) ?_ _⟩
        clear hK K hpu
        have hg2 := Goes.trans (⟨(Kept.refl G _).drew, fun k hk => .inl hk⟩ : Goes G wr G wr.drew) hg2
        obtain ⟨hD, hDG, hwD, hgo, hT, hds, hb'⟩ := HR.out
        have hD2 := hD.kept hg2.1 hDG
        have c0 := hD2.cell 0
        have c1 := hD2.cell 1
        have c2 := hD2.cell 2
        simp at c0 c1 c2
        have hb2 : Below w2.heap.size w2 (w2.alloc (.cells #[.int .i64 x.1, .int .i64 x.2.1, .int .i64 x.2.2] 111)) := (Below.refl _ _).alloc (Nat.le_refl _) _
        have hnx := fnext_any thr (hf2.below hb2) hds
        have H2 := Lib.hid (And.intro hf2 (And.intro hg2 hb2))
        clear hD hDG hwD hgo hT hds hb' hD2 hf2 hg2 hb2
        go_wp2_with fail
        refine hnx.mono ?_
        rintro e w3 ⟨b, y, s2, G3, rfl, hf3, hg3, hb3⟩
        clear hnx
        obtain ⟨hD, hDG, hwD, hgo, hT, hds, hb'⟩ := HR.out
        obtain ⟨hf2, hg2, hb2⟩ := H2.out
        have hnG : w2.heap.size ∉ G2 := fun hx => by have := hf2.lt _ hx; omega
        have hnG3 : w2.heap.size ∉ G3 := fun hx => (hg3.2 _ hx).elim hnG (fun h => by simp at h; omega)
        have hm3 := (Has.made w2 111 #[.int .i64 x.1, .int .i64 x.2.1, .int .i64 x.2.2]).kept hg3.1 hnG
        have e0 := hm3.cell 0
        have e1 := hm3.cell 1
        have e2 := hm3.cell 2
        have f0 := hm3.free 0
        have f1 := hm3.free 1
        have f2 := hm3.free 2
        simp at e0 e1 e2
        have hgw : Goes F w G3 w3 := (hgo.trans hg2).trans (Goes.trans ⟨Kept.of_below hb2, fun k hk => .inl hk⟩ hg3)
        have hwD2 : w.heap.size ≤ w2.heap.size := (hgo.trans hg2).1.size
        have hst : RelAt thr w F p l k sq m (s.length) (.int .i64 ((n + 1 : Nat) : Int)) (.pointer (some ⟨w2.heap.size, 0, none⟩)) (.bool b) (((w3.setCell ⟨w2.heap.size, 0, none⟩ (.int .i64 y.1)).setCell ⟨w2.heap.size, 1, none⟩ (.int .i64 y.2.1)).setCell ⟨w2.heap.size, 2, none⟩ (.int .i64 y.2.2)) := by
          have hk2 : Kept [w2.heap.size] w3 (((w3.setCell ⟨w2.heap.size, 0, none⟩ (.int .i64 y.1)).setCell ⟨w2.heap.size, 1, none⟩ (.int .i64 y.2.1)).setCell ⟨w2.heap.size, 2, none⟩ (.int .i64 y.2.2)) := (((Kept.refl _ _).setCell (by simp) _).setCell (by simp) _).setCell (by simp) _
          refine ⟨x :: T, s2, y, b, G3, w2.heap.size, by rw [List.length_cons, HN.out], rfl, rfl, ?_, hnG3, hwD2, ?_, ⟨?_, hgw.2⟩, ?_, ?_, ?_⟩
          · have := ((hm3.put 0 (.int .i64 y.1)).put 1 (.int .i64 y.2.1)).put 2 (.int .i64 y.2.2)
            simpa using this
          · simpa [whats] using hf3.kept hk2 (fun z hz hz2 => by simp at hz2; subst hz2; exact hnG3 hz)
          · exact (((hgw.1.setCell (.inr hwD2) _).setCell (.inr hwD2) _).setCell (.inr hwD2) _)
          · intro z hz
            rcases List.mem_cons.1 hz with rfl | hz
            · exact hb'.2.1
            · exact hT z hz
          · rcases hb3 with ⟨_, _, _, h⟩ | ⟨_, rfl, _⟩
            · exact h
            · exact hds
          · have hpm : (x :: T ++ s).Perm m := (List.perm_middle (l₁ := T) (a := x) (l₂ := s)).symm.trans hb'.1
            rcases hb3 with ⟨h1, h2, h3, _⟩ | ⟨h1, rfl, h2⟩
            · exact .inl ⟨h1, (List.Perm.append_left _ h2.symm).trans hpm, h3, by have := h2.length_eq; simp at this; omega⟩
            · exact .inr ⟨h1, hpm, h2⟩
        have HS := Lib.hid hst
        have hle : w2.heap.size < w3.heap.size := hm3.inside
        have hsg := hb'.2.2
        clear hst hD hDG hwD hgo hT hds hb' hf2 hg2 hb2 hnG hnG3 hm3 hgw hwD2 hf3 hg3 hb3
        unfold dval
        go_wp2
        go_roundg s.length
        case measure => omega
        case rel => exact HS.out
end Go.Proofs.YtlalhinodmmgfaaGreat

namespace Go.Proofs.YtlalhinodmmgfaaGreat
open Go.RowKit Go.Sort

/-- Free pages at p in blocks that are made since base. -/
def Fre (base : Nat) (w : World) (p : Nat) (l : List Int) (sq : Nat) (m : List Due) (k : List Int) : Prop := ∃ F, FreeIs p w F l (sq : Int) m k ∧ ∀ x ∈ F, base ≤ x

section
variable {base p sq : Nat} {w w' : World} {l k : List Int} {m : List Due}
theorem Fre.below (h : Fre base w p l sq m k) (hb : Below w.heap.size w w') : Fre base w' p l sq m k := by
  obtain ⟨F, h1, h2⟩ := h
  exact ⟨F, h1.below hb, h2⟩
theorem Fre.perm {l' k' : List Int} {m' : List Due} (h : Fre base w p l sq m k) (hl : l.Perm l') (hm : m.Perm m') (hk : k.Perm k') : Fre base w p l' sq m' k' := by
  obtain ⟨F, h1, h2⟩ := h
  exact ⟨F, h1.perm hl hm hk, h2⟩
theorem fre_goes {F F' : List Nat} {l' k' : List Int} {sq' : Nat} {m' : List Due} (hF : ∀ x ∈ F, base ≤ x) (hb : base ≤ w.heap.size) (h : FreeIs p w' F' l' (sq' : Int) m' k') (hg : Goes F w F' w') : Fre base w' p l' sq' m' k' ∧ Below base w w' :=
  ⟨⟨F', h, fun x hx => (hg.2 x hx).elim (hF x) (fun h => by omega)⟩, hg.1.below hb hF⟩

theorem fre_take {x : Int} {s : List Int} (h : Fre base w p l sq m k) (hb : base ≤ w.heap.size) (hp : l.Perm (x :: s)) (hm : ∀ y ∈ s, x ≤ y) :
    Calls Tryz.prog 24 #[.pointer (some ⟨p, 0, none⟩)] w fun e w' => e = .returned (.tuple #[.int .i64 x, .bool true]) ∧ Fre base w' p s sq m k ∧ Below base w w' := by
  obtain ⟨F, h1, h2⟩ := h
  refine (ftake_some h1 hp hm).mono ?_
  rintro e w' ⟨rfl, F', hf, hg⟩
  exact ⟨rfl, fre_goes h2 hb hf hg⟩
theorem fre_take_none (h : Fre base w p [] sq m k) :
    Calls Tryz.prog 24 #[.pointer (some ⟨p, 0, none⟩)] w fun e w' => e = .returned (.tuple #[.int .i64 0, .bool false]) ∧ w' = w := by
  obtain ⟨F, h1, h2⟩ := h
  exact ftake_none h1
theorem fre_pin (x : Int) (h : Fre base w p l sq m k) (hb : base ≤ w.heap.size) (hl : k.length < 1000000) :
    Calls Tryz.prog 22 #[.pointer (some ⟨p, 0, none⟩), .int .i64 x] w fun e w' => e = .returned (.tuple #[]) ∧ Fre base w' p l sq m (x :: k) ∧ Below base w w' := by
  obtain ⟨F, h1, h2⟩ := h
  refine (fpin_any x h1 hl).mono ?_
  rintro e w' ⟨rfl, F', hf, hg⟩
  exact ⟨rfl, fre_goes h2 hb hf hg⟩
theorem fre_unpin (x : Int) (h : Fre base w p l sq m k) (hb : base ≤ w.heap.size) :
    Calls Tryz.prog 25 #[.pointer (some ⟨p, 0, none⟩), .int .i64 x] w fun e w' => e = .returned (.bool (decide (x ∈ k))) ∧ Fre base w' p l sq m (k.erase x) ∧ Below base w w' := by
  obtain ⟨F, h1, h2⟩ := h
  refine (funpin_any x h1).mono ?_
  rintro e w' ⟨rfl, F', hf, hg⟩
  exact ⟨rfl, fre_goes h2 hb hf hg⟩
theorem fre_len (h : Fre base w p l sq m k) :
    Calls Tryz.prog 170 #[.pointer (some ⟨p, 0, none⟩)] w fun e w' => e = .returned (.int .i64 (l.length : Nat)) ∧ w' = w := by
  obtain ⟨F, h1, h2⟩ := h
  exact flen_any h1
theorem fre_list (h : Fre base w p l sq m k) :
    Calls Tryz.prog 26 #[.pointer (some ⟨p, 0, none⟩)] w fun e w' => ∃ v', e = .returned v' ∧ w'.ownsRow w.heap.size 3 1 v' l.length ((l.mergeSort leInt).map (.int .i64)) ∧ Below w.heap.size w w' := by
  obtain ⟨F, h1, h2⟩ := h
  exact flist_any h1
theorem fre_release (thr : Int) (h : Fre base w p l sq m k) (hb : base ≤ w.heap.size) (hd : Distinct m) (hk : (k = [] ∧ thr = 9223372036854775807) ∨ ∃ s, k.Perm (thr :: s) ∧ ∀ y ∈ s, thr ≤ y) (hfew : l.length + m.length ≤ 1000000) :
    Calls Tryz.prog 23 #[.pointer (some ⟨p, 0, none⟩)] w fun e w' => e = .returned (.int .i64 ((dueOf thr m).length : Nat)) ∧ Fre base w' p (whats (dueOf thr m) ++ l) sq (lateOf thr m) k ∧ Below base w w' := by
  obtain ⟨F, h1, h2⟩ := h
  refine (frelease_any thr h1 hd hk hfew).mono ?_
  rintro e w' ⟨rfl, F', hf, hg⟩
  exact ⟨rfl, fre_goes h2 hb hf hg⟩
/-- One page is given, in a row that was just made for it. -/
theorem fre_give1 (t x : Int) (h : Fre base w p l sq m k) (hb : base ≤ w.heap.size) (hl : m.length < 1000000) (hsq : sq < 1000000) :
    Calls Tryz.prog 21 #[.pointer (some ⟨p, 0, none⟩), .int .i64 t, .slice (some ⟨w.heap.size, 0, none⟩) 1 1] (w.alloc (.cells #[.int .i64 x] 3)) fun e w' => e = .returned (.tuple #[]) ∧ Fre base w' p l (sq + 1) ((t, ((sq + 1 : Nat) : Int), x) :: m) k ∧ Below base w w' := by
  have hb0 : Below w.heap.size w (w.alloc (.cells #[.int .i64 x] 3)) := (Below.refl _ _).alloc (Nat.le_refl _) _
  obtain ⟨F, h1, h2⟩ := h
  have hlt := h1.lt
  have hro : ReadsO F (w.alloc (.cells #[.int .i64 x] 3)) (.slice (some ⟨w.heap.size, 0, none⟩) 1 1) ([x].map (.int .i64)) :=
    ⟨some ⟨w.heap.size, 0, none⟩, 1, rfl, fun _ => ⟨w.heap.size, 0, rfl, by simp, fun hF => by have := hlt _ hF; omega, fun j u hu => by
      rw [Nat.zero_add, (Has.made w 3 #[.int .i64 x]).cell j]
      simpa using hu⟩⟩
  refine (fgive_any t (h1.below hb0) hro (by simp; omega) (by simp; omega)).mono ?_
  rintro e w' ⟨rfl, F', hf, hg⟩
  rw [giv_one] at hf
  exact ⟨rfl, fre_goes h2 hb hf (Goes.trans ⟨Kept.of_below hb0, fun x hx => .inl hx⟩ hg)⟩
/-- One page is given back at once, in a row that was just made for it. -/
theorem fre_back1 (x : Int) (h : Fre base w p l sq m k) (hb : base ≤ w.heap.size) (hl : l.length < 1000000) :
    Calls Tryz.prog 78 #[.pointer (some ⟨p, 0, none⟩), .slice (some ⟨w.heap.size, 0, none⟩) 1 1] (w.alloc (.cells #[.int .i64 x] 3)) fun e w' => e = .returned (.tuple #[]) ∧ Fre base w' p (x :: l) sq m k ∧ Below base w w' := by
  have hb0 : Below w.heap.size w (w.alloc (.cells #[.int .i64 x] 3)) := (Below.refl _ _).alloc (Nat.le_refl _) _
  obtain ⟨F, h1, h2⟩ := h
  have hlt := h1.lt
  have hro : ReadsO F (w.alloc (.cells #[.int .i64 x] 3)) (.slice (some ⟨w.heap.size, 0, none⟩) 1 1) ([x].map (.int .i64)) :=
    ⟨some ⟨w.heap.size, 0, none⟩, 1, rfl, fun _ => ⟨w.heap.size, 0, rfl, by simp, fun hF => by have := hlt _ hF; omega, fun j u hu => by
      rw [Nat.zero_add, (Has.made w 3 #[.int .i64 x]).cell j]
      simpa using hu⟩⟩
  refine (fback_any (h1.below hb0) hro (by simp; omega)).mono ?_
  rintro e w' ⟨rfl, F', hf, hg⟩
  exact ⟨rfl, fre_goes h2 hb hf (Goes.trans ⟨Kept.of_below hb0, fun x hx => .inl hx⟩ hg)⟩
theorem fre_new {v : Value} (h : ReadsO [] w v (l.map (.int .i64))) (hl : l.length ≤ 1000000) :
    Calls Tryz.prog 20 #[v] w fun e w' => e = .returned (.pointer (some ⟨w.heap.size, 0, none⟩)) ∧ Fre w.heap.size w' w.heap.size l 0 [] [] ∧ Below w.heap.size w w' := fnew_any h hl
theorem Fre.base_le {base' : Nat} (h : Fre base w p l sq m k) (hb : base' ≤ base) : Fre base' w p l sq m k := by
  obtain ⟨F, h1, h2⟩ := h
  exact ⟨F, h1, fun x hx => Nat.le_trans hb (h2 x hx)⟩
end

/-- What rises stays as it is. -/
theorem sorted_id {l : List Int} (h : l.Pairwise fun a b => a ≤ b) : l.mergeSort leInt = l :=
  List.Perm.eq_of_pairwise (le := fun a b => a ≤ b) (fun _ _ _ _ h1 h2 => Int.le_antisymm h1 h2) (srt_le l) h (List.mergeSort_perm l leInt)

/-! ### nil -/
theorem give_nil (t : Int) (v : Value) (w : World) : Calls Tryz.prog 21 #[.pointer none, .int .i64 t, v] w fun e w' => e = .returned (.tuple #[]) ∧ w' = w := by
  go_enter Tryz.func21, Tryz.ntmps21
  go_wp2
  exact bodyPost_ret (results_none rfl _ _ _) rfl ⟨rfl, rfl⟩
theorem back_nil (v : Value) (w : World) : Calls Tryz.prog 78 #[.pointer none, v] w fun e w' => e = .returned (.tuple #[]) ∧ w' = w := by
  go_enter Tryz.func78, Tryz.ntmps78
  go_wp2
  exact bodyPost_ret (results_none rfl _ _ _) rfl ⟨rfl, rfl⟩
theorem pin_nil (x : Int) (w : World) : Calls Tryz.prog 22 #[.pointer none, .int .i64 x] w fun e w' => e = .returned (.tuple #[]) ∧ w' = w := by
  go_enter Tryz.func22, Tryz.ntmps22
  go_wp2
  exact bodyPost_ret (results_none rfl _ _ _) rfl ⟨rfl, rfl⟩
theorem ftake_nil (w : World) : Calls Tryz.prog 24 #[.pointer none] w fun e w' => e = .returned (.tuple #[.int .i64 0, .bool false]) ∧ w' = w := by
  go_enter Tryz.func24, Tryz.ntmps24
  go_wp2
  go_ret2
  exact ⟨rfl, rfl⟩
theorem funpin_nil (x : Int) (w : World) : Calls Tryz.prog 25 #[.pointer none, .int .i64 x] w fun e w' => e = .returned (.bool false) ∧ w' = w := by
  go_enter Tryz.func25, Tryz.ntmps25
  go_wp2
  go_ret
  exact ⟨rfl, rfl⟩
theorem frelease_nil (w : World) : Calls Tryz.prog 23 #[.pointer none] w fun e w' => e = .returned (.int .i64 0) ∧ w' = w := by
  go_enter Tryz.func23, Tryz.ntmps23
  go_wp2
  go_ret
  exact ⟨rfl, rfl⟩
theorem flen_nil (w : World) : Calls Tryz.prog 170 #[.pointer none] w fun e w' => e = .returned (.int .i64 0) ∧ w' = w := by
  go_enter Tryz.func170, Tryz.ntmps170
  go_wp2
  go_ret
  exact ⟨rfl, rfl⟩
theorem flist_nil (w : World) : Calls Tryz.prog 26 #[.pointer none] w fun e w' => e = .returned (.slice none 0 0) ∧ w' = w := by
  go_enter Tryz.func26, Tryz.ntmps26
  go_wp2
  go_ret
  exact ⟨rfl, rfl⟩

set_option maxRecDepth 100000 in
set_option maxHeartbeats 2000000 in
theorem alive6_any (w : World) : Calls Tryz.prog 5 #[] w fun e w' => e = .returned (.bool true) ∧ Below w.heap.size w w' := by
  have hr : ReadsO [] (w.alloc (.cells #[.int .i64 9, .int .i64 4] 3)) (.slice (some ⟨w.heap.size, 0, none⟩) 2 2) ([9, 4].map (.int .i64)) := by
    refine ⟨some ⟨w.heap.size, 0, none⟩, 2, rfl, fun _ => ⟨w.heap.size, 0, rfl, by simp, by simp, fun j u hu => ?_⟩⟩
    rw [Nat.zero_add, (Has.made w _ _).cell j]
    simpa using hu
  have hnew := fre_new hr (by simp)
  have hb0 : Below w.heap.size w (w.alloc (.cells #[.int .i64 9, .int .i64 4] 3)) := (Below.refl _ _).alloc (Nat.le_refl _) _
  have hsz : (w.alloc (.cells #[.int .i64 9, .int .i64 4] 3)).heap.size = w.heap.size + 1 := by simp
  rw [hsz] at hnew
  have H0 := Lib.hid hb0
  clear hr hb0
  go_enter Tryz.func5, Tryz.ntmps5
  go_wp2_with fail
  refine hnew.mono ?_
  rintro e w1 ⟨rfl, hf, hb1⟩
  have hbb : Below w.heap.size w w1 := H0.out.trans (hb1.mono (by omega))
  have hg := fre_give1 7 5 (hf.base_le (Nat.le_succ w.heap.size)) hbb.size (by decide) (by decide)
  have HB := Lib.hid hbb
  clear hf hb1 hbb hnew hsz H0
  generalize w.heap.size + 1 = p at *
  go_wp2_with fail
  refine hg.mono ?_
  rintro e w2 ⟨rfl, hf, hb⟩
  have hbb := HB.out.trans hb
  have hp := fre_pin 6 hf hbb.size (by decide)
  have HB2 := Lib.hid hbb
  clear hf hb hbb hg HB
  go_wp2_with fail
  refine hp.mono ?_
  rintro e w3 ⟨rfl, hf, hb⟩
  have hbb := HB2.out.trans hb
  have hr := fre_release 6 hf hbb.size (by unfold Distinct; decide) (.inr ⟨[], List.Perm.refl _, by simp⟩) (by decide)
  rw [show (dueOf 6 [((7 : Int), ((0 + 1 : Nat) : Int), (5 : Int))]) = [] by decide, show (lateOf 6 [((7 : Int), ((0 + 1 : Nat) : Int), (5 : Int))]) = [((7 : Int), ((0 + 1 : Nat) : Int), (5 : Int))] by decide] at hr
  have HB3 := Lib.hid hbb
  clear hf hb hbb hp HB2
  go_wp2_with fail
  refine hr.mono ?_
  rintro e w4 ⟨rfl, hf, hb⟩
  have hbb := HB3.out.trans hb
  have ht := fre_take (x := 4) (s := [9]) hf hbb.size (by decide) (by decide)
  have HB4 := Lib.hid hbb
  clear hf hb hbb hr HB3
  go_wp2_with fail
  refine ht.mono ?_
  rintro e w5 ⟨rfl, hf, hb⟩
  have hbb := HB4.out.trans hb
  have hu := fre_unpin 6 hf hbb.size
  rw [show decide ((6 : Int) ∈ [(6 : Int)]) = true by decide, show [(6 : Int)].erase 6 = [] by decide] at hu
  have HB5 := Lib.hid hbb
  clear hf hb hbb ht HB4
  go_wp2_with fail
  refine hu.mono ?_
  rintro e w6 ⟨rfl, hf, hb⟩
  have hbb := HB5.out.trans hb
  have hr := fre_release 9223372036854775807 hf hbb.size (by unfold Distinct; decide) (.inl ⟨rfl, rfl⟩) (by decide)
  rw [show (dueOf 9223372036854775807 [((7 : Int), ((0 + 1 : Nat) : Int), (5 : Int))]) = [((7 : Int), ((0 + 1 : Nat) : Int), (5 : Int))] by decide, show (lateOf 9223372036854775807 [((7 : Int), ((0 + 1 : Nat) : Int), (5 : Int))]) = [] by decide] at hr
  have HB6 := Lib.hid hbb
  clear hf hb hbb hu HB5
  go_wp2_with fail
  refine hr.mono ?_
  rintro e w7 ⟨rfl, hf, hb⟩
  have hbb := HB6.out.trans hb
  have hl := fre_list hf
  rw [show (whats [((7 : Int), ((0 + 1 : Nat) : Int), (5 : Int))] ++ [(9 : Int)]) = [5, 9] by decide, sorted_id (show ([5, 9] : List Int).Pairwise (fun a b => a ≤ b) by decide), show ([5, 9] : List Int).length = 2 from rfl] at hl
  have HB7 := Lib.hid hbb
  clear hf hb hbb hr HB6
  go_wp2_with fail
  refine hl.mono ?_
  rintro e w8 ⟨v', rfl, ho, hb⟩
  have hbb := HB7.out.trans (hb.mono HB7.out.size)
  rcases ho.2 with ⟨_, h1⟩ | ⟨g, cap, cur, rfl, hgb, hg, hnc, hcm, hcs, htake⟩
  · omega
  have c0 := ho.cellAt 0 (by omega)
  have c1 := ho.cellAt 1 (by omega)
  simp at c0 c1
  have HB8 := Lib.hid hbb
  clear hb hbb hl HB7 ho hgb hg hnc hcm hcs htake
  go_wp2
  go_ret
  exact ⟨rfl, HB8.out⟩
end Go.Proofs.YtlalhinodmmgfaaGreat
