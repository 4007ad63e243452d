/-
  Free pages of a law's own: what each call does; the calls of nil; a first call whose answer the document fixes. List of a line: a copy, sorted by when each is due.
-/
import Derived.Test.YtjimjemogbphaaaGreatMg27
import Derived.Test.YtjimjemogbphaaaGreatMg26
import Derived.Test.YtjimjemogbphaaaGreatShelf2
import Derived.Sort.OwnSorted
namespace Go.Proofs.YtjimjemogbphaaaGreat
open Go.RowKit Go.Sort

/-- Free pages at p in blocks that are made since base. -/
def Fre (base : Nat) (w : World) (p : Nat) (l : List Int) (sq : Nat) (m : List Due) (k : List Int) : Prop := ∃ F, FreeIs p w F l (sq : Int) m k ∧ ∀ x ∈ F, base ≤ x

section
variable {base p sq : Nat} {w w' : World} {l k : List Int} {m : List Due}
theorem Fre.below (h : Fre base w p l sq m k) (hb : Below w.heap.size w w') : Fre base w' p l sq m k := by
  obtain ⟨F, h1, h2⟩ := h
  exact ⟨F, h1.below hb, h2⟩
theorem Fre.perm {l' k' : List Int} {m' : List Due} (h : Fre base w p l sq m k) (hl : l.Perm l') (hm : m.Perm m') (hk : k.Perm k') : Fre base w p l' sq m' k' := by
  obtain ⟨F, h1, h2⟩ := h
  exact ⟨F, h1.perm hl hm hk, h2⟩
theorem fre_goes {F F' : List Nat} {l' k' : List Int} {sq' : Nat} {m' : List Due} (hF : ∀ x ∈ F, base ≤ x) (hb : base ≤ w.heap.size) (h : FreeIs p w' F' l' (sq' : Int) m' k') (hg : Goes F w F' w') : Fre base w' p l' sq' m' k' ∧ Below base w w' :=
  ⟨⟨F', h, fun x hx => (hg.2 x hx).elim (hF x) (fun h => by omega)⟩, hg.1.below hb hF⟩

theorem fre_take {x : Int} {s : List Int} (h : Fre base w p l sq m k) (hb : base ≤ w.heap.size) (hp : l.Perm (x :: s)) (hm : ∀ y ∈ s, x ≤ y) :
    Calls Tryz.prog 10 #[.pointer (some ⟨p, 0, none⟩)] w fun e w' => e = .returned (.tuple #[.int .i64 x, .bool true]) ∧ Fre base w' p s sq m k ∧ Below base w w' := by
  obtain ⟨F, h1, h2⟩ := h
  refine (ftake_some h1 hp hm).mono ?_
  rintro e w' ⟨rfl, F', hf, hg⟩
  exact ⟨rfl, fre_goes h2 hb hf hg⟩
theorem fre_take_none (h : Fre base w p [] sq m k) :
    Calls Tryz.prog 10 #[.pointer (some ⟨p, 0, none⟩)] w fun e w' => e = .returned (.tuple #[.int .i64 0, .bool false]) ∧ w' = w := by
  obtain ⟨F, h1, h2⟩ := h
  exact ftake_none h1
theorem fre_pin (x : Int) (h : Fre base w p l sq m k) (hb : base ≤ w.heap.size) (hl : k.length < 1000000) :
    Calls Tryz.prog 16 #[.pointer (some ⟨p, 0, none⟩), .int .i64 x] w fun e w' => e = .returned (.tuple #[]) ∧ Fre base w' p l sq m (x :: k) ∧ Below base w w' := by
  obtain ⟨F, h1, h2⟩ := h
  refine (fpin_any x h1 hl).mono ?_
  rintro e w' ⟨rfl, F', hf, hg⟩
  exact ⟨rfl, fre_goes h2 hb hf hg⟩
theorem fre_unpin (x : Int) (h : Fre base w p l sq m k) (hb : base ≤ w.heap.size) :
    Calls Tryz.prog 18 #[.pointer (some ⟨p, 0, none⟩), .int .i64 x] w fun e w' => e = .returned (.bool (decide (x ∈ k))) ∧ Fre base w' p l sq m (k.erase x) ∧ Below base w w' := by
  obtain ⟨F, h1, h2⟩ := h
  refine (funpin_any x h1).mono ?_
  rintro e w' ⟨rfl, F', hf, hg⟩
  exact ⟨rfl, fre_goes h2 hb hf hg⟩
theorem fre_len (h : Fre base w p l sq m k) :
    Calls Tryz.prog 27 #[.pointer (some ⟨p, 0, none⟩)] w fun e w' => e = .returned (.int .i64 (l.length : Nat)) ∧ w' = w := by
  obtain ⟨F, h1, h2⟩ := h
  exact flen_any h1
theorem fre_waiting (h : Fre base w p l sq m k) :
    Calls Tryz.prog 28 #[.pointer (some ⟨p, 0, none⟩)] w fun e w' => e = .returned (.int .i64 (m.length : Nat)) ∧ w' = w := by
  obtain ⟨F, h1, h2⟩ := h
  exact fwaiting_any h1
theorem fre_list (h : Fre base w p l sq m k) :
    Calls Tryz.prog 22 #[.pointer (some ⟨p, 0, none⟩)] w fun e w' => ∃ v', e = .returned v' ∧ w'.ownsRow w.heap.size 3 1 v' l.length ((l.mergeSort leInt).map (.int .i64)) ∧ Below w.heap.size w w' := by
  obtain ⟨F, h1, h2⟩ := h
  exact flist_any h1
theorem fre_release (thr : Int) (h : Fre base w p l sq m k) (hb : base ≤ w.heap.size) (hd : Distinct m) (hk : (k = [] ∧ thr = 9223372036854775807) ∨ ∃ s, k.Perm (thr :: s) ∧ ∀ y ∈ s, thr ≤ y) (hfew : l.length + m.length ≤ 1000000) :
    Calls Tryz.prog 20 #[.pointer (some ⟨p, 0, none⟩)] w fun e w' => e = .returned (.int .i64 ((dueOf thr m).length : Nat)) ∧ Fre base w' p (whats (dueOf thr m) ++ l) sq (lateOf thr m) k ∧ Below base w w' := by
  obtain ⟨F, h1, h2⟩ := h
  refine (frelease_any thr h1 hd hk hfew).mono ?_
  rintro e w' ⟨rfl, F', hf, hg⟩
  exact ⟨rfl, fre_goes h2 hb hf hg⟩
/-- One page is given, in a row that was just made for it. -/
theorem fre_give1 (t x : Int) (h : Fre base w p l sq m k) (hb : base ≤ w.heap.size) (hl : m.length < 1000000) (hsq : sq < 1000000) :
    Calls Tryz.prog 12 #[.pointer (some ⟨p, 0, none⟩), .int .i64 t, .slice (some ⟨w.heap.size, 0, none⟩) 1 1] (w.alloc (.cells #[.int .i64 x] 3)) fun e w' => e = .returned (.tuple #[]) ∧ Fre base w' p l (sq + 1) ((t, ((sq + 1 : Nat) : Int), x) :: m) k ∧ Below base w w' := by
  have hb0 : Below w.heap.size w (w.alloc (.cells #[.int .i64 x] 3)) := (Below.refl _ _).alloc (Nat.le_refl _) _
  obtain ⟨F, h1, h2⟩ := h
  have hlt := h1.lt
  have hro : ReadsO F (w.alloc (.cells #[.int .i64 x] 3)) (.slice (some ⟨w.heap.size, 0, none⟩) 1 1) ([x].map (.int .i64)) :=
    ⟨some ⟨w.heap.size, 0, none⟩, 1, rfl, fun _ => ⟨w.heap.size, 0, rfl, by simp, fun hF => by have := hlt _ hF; omega, fun j u hu => by
      rw [Nat.zero_add, (Has.made w 3 #[.int .i64 x]).cell j]
      simpa using hu⟩⟩
  refine (fgive_any t (h1.below hb0) hro (by simp; omega) (by simp; omega)).mono ?_
  rintro e w' ⟨rfl, F', hf, hg⟩
  rw [giv_one] at hf
  exact ⟨rfl, fre_goes h2 hb hf (Goes.trans ⟨Kept.of_below hb0, fun x hx => .inl hx⟩ hg)⟩
/-- One page is given back at once, in a row that was just made for it. -/
theorem fre_back1 (x : Int) (h : Fre base w p l sq m k) (hb : base ≤ w.heap.size) (hl : l.length < 1000000) :
    Calls Tryz.prog 14 #[.pointer (some ⟨p, 0, none⟩), .slice (some ⟨w.heap.size, 0, none⟩) 1 1] (w.alloc (.cells #[.int .i64 x] 3)) fun e w' => e = .returned (.tuple #[]) ∧ Fre base w' p (x :: l) sq m k ∧ Below base w w' := by
  have hb0 : Below w.heap.size w (w.alloc (.cells #[.int .i64 x] 3)) := (Below.refl _ _).alloc (Nat.le_refl _) _
  obtain ⟨F, h1, h2⟩ := h
  have hlt := h1.lt
  have hro : ReadsO F (w.alloc (.cells #[.int .i64 x] 3)) (.slice (some ⟨w.heap.size, 0, none⟩) 1 1) ([x].map (.int .i64)) :=
    ⟨some ⟨w.heap.size, 0, none⟩, 1, rfl, fun _ => ⟨w.heap.size, 0, rfl, by simp, fun hF => by have := hlt _ hF; omega, fun j u hu => by
      rw [Nat.zero_add, (Has.made w 3 #[.int .i64 x]).cell j]
      simpa using hu⟩⟩
  refine (fback_any (h1.below hb0) hro (by simp; omega)).mono ?_
  rintro e w' ⟨rfl, F', hf, hg⟩
  exact ⟨rfl, fre_goes h2 hb hf (Goes.trans ⟨Kept.of_below hb0, fun x hx => .inl hx⟩ hg)⟩
theorem fre_new {v : Value} (h : ReadsO [] w v (l.map (.int .i64))) (hl : l.length ≤ 1000000) :
    Calls Tryz.prog 7 #[v] w fun e w' => e = .returned (.pointer (some ⟨w.heap.size, 0, none⟩)) ∧ Fre w.heap.size w' w.heap.size l 0 [] [] ∧ Below w.heap.size w w' := fnew_any h hl
theorem Fre.base_le {base' : Nat} (h : Fre base w p l sq m k) (hb : base' ≤ base) : Fre base' w p l sq m k := by
  obtain ⟨F, h1, h2⟩ := h
  exact ⟨F, h1, fun x hx => Nat.le_trans hb (h2 x hx)⟩
end

/-- What rises stays as it is. -/
theorem sorted_id {l : List Int} (h : l.Pairwise fun a b => a ≤ b) : l.mergeSort leInt = l :=
  List.Perm.eq_of_pairwise (le := fun a b => a ≤ b) (fun _ _ _ _ h1 h2 => Int.le_antisymm h1 h2) (srt_le l) h (List.mergeSort_perm l leInt)

/-! ### nil -/
theorem give_nil (t : Int) (v : Value) (w : World) : Calls Tryz.prog 12 #[.pointer none, .int .i64 t, v] w fun e w' => e = .returned (.tuple #[]) ∧ w' = w := by
  go_enter Tryz.func12, Tryz.ntmps12
  go_wp2
  exact bodyPost_ret (results_none rfl _ _ _) rfl ⟨rfl, rfl⟩
theorem back_nil (v : Value) (w : World) : Calls Tryz.prog 14 #[.pointer none, v] w fun e w' => e = .returned (.tuple #[]) ∧ w' = w := by
  go_enter Tryz.func14, Tryz.ntmps14
  go_wp2
  exact bodyPost_ret (results_none rfl _ _ _) rfl ⟨rfl, rfl⟩
theorem pin_nil (x : Int) (w : World) : Calls Tryz.prog 16 #[.pointer none, .int .i64 x] w fun e w' => e = .returned (.tuple #[]) ∧ w' = w := by
  go_enter Tryz.func16, Tryz.ntmps16
  go_wp2
  exact bodyPost_ret (results_none rfl _ _ _) rfl ⟨rfl, rfl⟩
theorem ftake_nil (w : World) : Calls Tryz.prog 10 #[.pointer none] w fun e w' => e = .returned (.tuple #[.int .i64 0, .bool false]) ∧ w' = w := by
  go_enter Tryz.func10, Tryz.ntmps10
  go_wp2
  go_ret2
  exact ⟨rfl, rfl⟩
theorem funpin_nil (x : Int) (w : World) : Calls Tryz.prog 18 #[.pointer none, .int .i64 x] w fun e w' => e = .returned (.bool false) ∧ w' = w := by
  go_enter Tryz.func18, Tryz.ntmps18
  go_wp2
  go_ret
  exact ⟨rfl, rfl⟩
theorem frelease_nil (w : World) : Calls Tryz.prog 20 #[.pointer none] w fun e w' => e = .returned (.int .i64 0) ∧ w' = w := by
  go_enter Tryz.func20, Tryz.ntmps20
  go_wp2
  go_ret
  exact ⟨rfl, rfl⟩
theorem flen_nil (w : World) : Calls Tryz.prog 27 #[.pointer none] w fun e w' => e = .returned (.int .i64 0) ∧ w' = w := by
  go_enter Tryz.func27, Tryz.ntmps27
  go_wp2
  go_ret
  exact ⟨rfl, rfl⟩
theorem fwaiting_nil (w : World) : Calls Tryz.prog 28 #[.pointer none] w fun e w' => e = .returned (.int .i64 0) ∧ w' = w := by
  go_enter Tryz.func28, Tryz.ntmps28
  go_wp2
  go_ret
  exact ⟨rfl, rfl⟩
theorem flist_nil (w : World) : Calls Tryz.prog 22 #[.pointer none] w fun e w' => e = .returned (.slice none 0 0) ∧ w' = w := by
  go_enter Tryz.func22, Tryz.ntmps22
  go_wp2
  go_ret
  exact ⟨rfl, rfl⟩
theorem fall_nil (w : World) : Calls Tryz.prog 23 #[.pointer none] w fun e w' => e = .returned (.slice none 0 0) ∧ w' = w := by
  go_enter Tryz.func23, Tryz.ntmps23
  go_wp2
  go_ret
  exact ⟨rfl, rfl⟩

set_option maxRecDepth 100000 in
set_option maxHeartbeats 2000000 in
theorem alive6_any (w : World) : Calls Tryz.prog 5 #[] w fun e w' => e = .returned (.bool true) ∧ Below w.heap.size w w' := by
  have hr : ReadsO [] (w.alloc (.cells #[.int .i64 9, .int .i64 4] 3)) (.slice (some ⟨w.heap.size, 0, none⟩) 2 2) ([9, 4].map (.int .i64)) := by
    refine ⟨some ⟨w.heap.size, 0, none⟩, 2, rfl, fun _ => ⟨w.heap.size, 0, rfl, by simp, by simp, fun j u hu => ?_⟩⟩
    rw [Nat.zero_add, (Has.made w _ _).cell j]
    simpa using hu
  have hnew := fre_new hr (by simp)
  have hb0 : Below w.heap.size w (w.alloc (.cells #[.int .i64 9, .int .i64 4] 3)) := (Below.refl _ _).alloc (Nat.le_refl _) _
  have hsz : (w.alloc (.cells #[.int .i64 9, .int .i64 4] 3)).heap.size = w.heap.size + 1 := by simp
  rw [hsz] at hnew
  have H0 := Lib.hid hb0
  clear hr hb0
  go_enter Tryz.func5, Tryz.ntmps5
  go_wp2_with fail
  refine hnew.mono ?_
  rintro e w1 ⟨rfl, hf, hb1⟩
  have hbb : Below w.heap.size w w1 := H0.out.trans (hb1.mono (by omega))
  have hg := fre_give1 7 5 (hf.base_le (Nat.le_succ w.heap.size)) hbb.size (by decide) (by decide)
  have HB := Lib.hid hbb
  clear hf hb1 hbb hnew hsz H0
  generalize w.heap.size + 1 = p at *
  go_wp2_with fail
  refine hg.mono ?_
  rintro e w2 ⟨rfl, hf, hb⟩
  have hbb := HB.out.trans hb
  have hp := fre_pin 6 hf hbb.size (by decide)
  have HB2 := Lib.hid hbb
  clear hf hb hbb hg HB
  go_wp2_with fail
  refine hp.mono ?_
  rintro e w3 ⟨rfl, hf, hb⟩
  have hbb := HB2.out.trans hb
  have hr := fre_release 6 hf hbb.size (by unfold Distinct; decide) (.inr ⟨[], List.Perm.refl _, by simp⟩) (by decide)
  rw [show (dueOf 6 [((7 : Int), ((0 + 1 : Nat) : Int), (5 : Int))]) = [] by decide, show (lateOf 6 [((7 : Int), ((0 + 1 : Nat) : Int), (5 : Int))]) = [((7 : Int), ((0 + 1 : Nat) : Int), (5 : Int))] by decide] at hr
  have HB3 := Lib.hid hbb
  clear hf hb hbb hp HB2
  go_wp2_with fail
  refine hr.mono ?_
  rintro e w4 ⟨rfl, hf, hb⟩
  have hbb := HB3.out.trans hb
  have ht := fre_take (x := 4) (s := [9]) hf hbb.size (by decide) (by decide)
  have HB4 := Lib.hid hbb
  clear hf hb hbb hr HB3
  go_wp2_with fail
  refine ht.mono ?_
  rintro e w5 ⟨rfl, hf, hb⟩
  have hbb := HB4.out.trans hb
  have hu := fre_unpin 6 hf hbb.size
  rw [show decide ((6 : Int) ∈ [(6 : Int)]) = true by decide, show [(6 : Int)].erase 6 = [] by decide] at hu
  have HB5 := Lib.hid hbb
  clear hf hb hbb ht HB4
  go_wp2_with fail
  refine hu.mono ?_
  rintro e w6 ⟨rfl, hf, hb⟩
  have hbb := HB5.out.trans hb
  have hr := fre_release 9223372036854775807 hf hbb.size (by unfold Distinct; decide) (.inl ⟨rfl, rfl⟩) (by decide)
  rw [show (dueOf 9223372036854775807 [((7 : Int), ((0 + 1 : Nat) : Int), (5 : Int))]) = [((7 : Int), ((0 + 1 : Nat) : Int), (5 : Int))] by decide, show (lateOf 9223372036854775807 [((7 : Int), ((0 + 1 : Nat) : Int), (5 : Int))]) = [] by decide] at hr
  have HB6 := Lib.hid hbb
  clear hf hb hbb hu HB5
  go_wp2_with fail
  refine hr.mono ?_
  rintro e w7 ⟨rfl, hf, hb⟩
  have hbb := HB6.out.trans hb
  have hl := fre_list hf
  rw [show (whats [((7 : Int), ((0 + 1 : Nat) : Int), (5 : Int))] ++ [(9 : Int)]) = [5, 9] by decide, sorted_id (show ([5, 9] : List Int).Pairwise (fun a b => a ≤ b) by decide), show ([5, 9] : List Int).length = 2 from rfl] at hl
  have HB7 := Lib.hid hbb
  clear hf hb hbb hr HB6
  go_wp2_with fail
  refine hl.mono ?_
  rintro e w8 ⟨v', rfl, ho, hb⟩
  have hbb := HB7.out.trans (hb.mono HB7.out.size)
  rcases ho.2 with ⟨_, h1⟩ | ⟨g, cap, cur, rfl, hgb, hg, hnc, hcm, hcs, htake⟩
  · omega
  have c0 := ho.cellAt 0 (by omega)
  have c1 := ho.cellAt 1 (by omega)
  simp at c0 c1
  have HB8 := Lib.hid hbb
  clear hb hbb hl HB7 ho hgb hg hnc hcm hcs htake
  go_wp2
  go_ret
  exact ⟨rfl, HB8.out⟩
end Go.Proofs.YtjimjemogbphaaaGreat

namespace Go.Proofs.YtjimjemogbphaaaGreat
open Go.RowKit Go.Sort

/-- A world in which blocks have come and draws were made, and nothing else. -/
theorem grow_of_below {w w' : World} (h : Below w.heap.size w w') (hd : w.drawn ≤ w'.drawn) : ∃ q os, w' = Sort.grow (w.drewN q) os := by
  obtain ⟨h1, h2, h3, h4, h5⟩ := h
  refine ⟨w'.drawn - w.drawn, w'.heap.extract w.heap.size w'.heap.size, ?_⟩
  obtain ⟨heap', tape', drawn', os', out'⟩ := w'
  obtain ⟨heap, tape, drawn, os, out⟩ := w
  simp only at h1 h2 h3 h4 h5 hd
  subst h1 h2 h3
  simp only [Sort.grow, World.drewN, World.mk.injEq, and_true, true_and]
  refine ⟨?_, by omega⟩
  apply Array.ext_getElem?
  intro k
  by_cases hk : k < heap.size
  · rw [h5 k hk, Array.getElem?_append_left hk]
  · rw [Array.getElem?_append_right (by omega)]
    by_cases hk2 : k < heap'.size
    · rw [Array.getElem?_eq_getElem hk2, Array.getElem?_eq_getElem (by simp; omega)]
      simp [show heap.size + (k - heap.size) = k by omega]
    · rw [Array.getElem?_eq_none (by omega), Array.getElem?_eq_none (by simp; omega)]

theorem flat_dues (d : Array Due) : flatK dcells 3 d = (dlist d.toList).toArray := by
  apply Array.ext_getElem?
  intro t
  by_cases ht : t < d.size * 3
  · have h1 : (flatK dcells 3 d)[t]? = some (flatK dcells 3 d)[t]! := by simp [ht]
    rw [h1, get_flatK _ _ _ t ht]
    have hi : t / 3 < d.size := by omega
    have h2 := dlist_at d.toList (t / 3) (t % 3) d[t / 3]! (get_of hi) (by omega)
    rw [show t / 3 * 3 + t % 3 = t by omega] at h2
    rw [List.getElem?_toArray, h2]
    have h3 : t % 3 < (dcells d[t / 3]!).length := by simp [dcells]; omega
    simp [h3]
  · rw [Array.getElem?_eq_none (by simp; omega), Array.getElem?_eq_none (by simp [length_dlist]; omega)]

theorem holds_dues {w : World} {g n : Nat} {cur : Array Value} {e : TypeId} {l : List Due} (hb : w.heap[g]? = some (.cells cur e (0, 0))) (ht : cur.toList.take (n * 3) = dlist l) (hn : l.length = n) : HoldsK dcells 3 w g 0 l.toArray := by
  unfold HoldsK
  rw [flat_dues]
  intro j hj
  have hj' : j < n * 3 := by simpa [length_dlist, hn] using hj
  refine ⟨?_, by simp [World.frozen?, hb]⟩
  have h1 : (cur.toList.take (n * 3))[j]? = (dlist l)[j]? := by rw [ht]
  rw [List.getElem?_take_of_lt hj'] at h1
  simp only [World.cell?, hb, Nat.zero_add]
  simp only [Option.isSome_none, Bool.false_eq_true, if_false]
  rw [← Array.getElem?_toList, h1]
  have h2 : j < (dlist l).length := by rw [length_dlist]; omega
  simp [h2]

theorem heap_sortedV {w : World} {g n : Nat} {os : Array Obj} {cur : Array Value} {e : TypeId} {fr : Nat × Nat} (d : Array Value) (hb : w.heap[g]? = some (.cells cur e fr)) :
    (grow (putRow id (Sort.ahead w n) g 0 d) os).heap[g]? = some (.cells (putCells id 0 d cur) e fr) := by
  have hg : g < w.heap.size := (Array.getElem?_eq_some_iff.1 hb).1
  rw [heap_grow_old _ _ (by simpa using hg)]
  simp [putRow, mapBlock, Sort.ahead, Array.getElem?_modify, hb, onCells]

theorem grownBy_sortedV {w : World} {g n : Nat} {os : Array Obj} (d : Array Value) : w.grownBy (grow (putRow id (Sort.ahead w n) g 0 d) os) (some g) := by
  refine ⟨rfl, rfl, rfl, by simp, fun k hk hne => ?_⟩
  rw [heap_grow_old _ _ (by simpa using hk)]
  have : g ≠ k := fun e => hne (by rw [e])
  simp [putRow, mapBlock, Sort.ahead, Array.getElem?_modify, this]

theorem take_putCellsV (cur : Array Value) (ts : List Value) (h : ts.length ≤ cur.size) : (putCells id 0 ts.toArray cur).toList.take ts.length = ts := by
  apply List.ext_getElem?
  intro j
  by_cases hj : j < ts.length
  · rw [List.getElem?_take_of_lt hj, Array.getElem?_toList]
    simp [putCells, hj, show j < cur.size by omega]
  · rw [List.getElem?_take_eq_none (by omega), List.getElem?_eq_none (by omega)]

theorem ltOf_cmpDue : ltOf cmpDue = ltDue := by
  funext a b
  exact cmpDue_lt a b

set_option maxRecDepth 100000 in
theorem insDues_none (w : World) (A : Option Addr) (c : Nat) (f : Value) : Calls Tryz.prog 162 #[.slice A 0 c, .int .i64 0, .int .i64 0, f] w fun e w' => e = .returned (.tuple #[]) ∧ w' = w := by
  go_enter Tryz.func162, Tryz.ntmps162
  go_wp2
  go_loopg [8] 1 (fun g i wr => i = .int .i64 1 ∧ wr = w)
  case atStart => exact ⟨rfl, rfl⟩
  case round =>
    obtain ⟨rfl, rfl⟩ := hrel
    go_wp2
    go_end0
    exact ⟨rfl, rfl⟩

set_option maxRecDepth 100000 in
theorem pdqDues_none (w : World) (A : Option Addr) (c : Nat) (f : Value) : Calls Tryz.prog 144 #[.slice A 0 c, .int .i64 0, .int .i64 0, .int .i64 0, f] w fun e w' => e = .returned (.tuple #[]) ∧ w' = w := by
  go_enter Tryz.func144, Tryz.ntmps144
  go_wp2_with fail
  go_loopg [1, 2] 1 (fun g i j wr => i = .int .i64 0 ∧ j = .int .i64 0 ∧ wr = w)
  case atStart => exact ⟨rfl, rfl, rfl⟩
  case round =>
    obtain ⟨rfl, rfl, rfl⟩ := hrel
    go_wp2_with fail
    refine (insDues_none _ _ _ _).mono ?_
    rintro e w' ⟨rfl, rfl⟩
    go_wp2_with fail
    exact bodyPost_ret (results_none rfl _ _ _) rfl ⟨rfl, rfl⟩

set_option maxRecDepth 100000 in
theorem sortDues_none (w : World) (A : Option Addr) (c : Nat) (f : Value) : Calls Tryz.prog 111 #[.slice A 0 c, f] w fun e w' => e = .returned (.tuple #[]) ∧ w' = w := by
  go_enter Tryz.func111, Tryz.ntmps111
  go_wp2_with fail
  refine (Tryz.bits_Len 0 _ (by decide) (by decide)).mono ?_
  rintro e w' ⟨rfl, rfl⟩
  rw [show Lib.bitLen (Int.toNat 0) = 0 from rfl]
  go_wp2_with fail
  refine (pdqDues_none _ _ _ _).mono ?_
  rintro e w' ⟨rfl, rfl⟩
  go_wp2_with fail
  go_end0
  exact ⟨rfl, rfl⟩

/-- A row of one's own is sorted in its place. -/
theorem sortDues_own {w : World} {base : Nat} {v : Value} {l : List Due} (h : w.ownsRow base 94 3 v l.length (dlist l)) (hl : l.length ≤ 1000000) :
    Calls Tryz.prog 111 #[v, .func (.func 112) #[] #[]] w fun e w' => e = .returned (.tuple #[]) ∧ ∃ d : List Due, d.Perm l ∧ d.Pairwise (fun x y => ltDue y x = false) ∧ w'.ownsRow base 94 3 v l.length (dlist d) ∧ w.grownBy w' v.ownBlock := by
  rcases Nat.eq_zero_or_pos l.length with h0 | h0
  · obtain rfl := List.eq_nil_of_length_eq_zero h0
    obtain ⟨A, c, rfl⟩ := row_form h
    refine (sortDues_none w A c _).mono fun e w' he => ?_
    obtain ⟨rfl, rfl⟩ := he
    exact ⟨rfl, [], List.Perm.refl _, List.Pairwise.nil, h, rfl, rfl, rfl, Nat.le_refl _, fun _ _ _ => rfl⟩
  · rcases h.2 with ⟨_, h1⟩ | ⟨g, cap, cur, rfl, hb, hg, hnc, hcm, hcs, htake⟩
    · omega
    · have hH := holds_dues hg htake rfl
      have hs := AnyQ.slices_SortFunc Tryz.laysSlF06 3 (fun w => by kernel_rfl) (fun w => by kernel_rfl) dcells (fun _ => rfl) dcells_one cmpDue (by rw [ltOf_cmpDue]; exact swo_due) 112 #[] g 0 cap l.toArray w
        (fun _ _ => by kernel_rfl) (fun m os dk hdk x y => (order_more x y _).mono fun e w' he => ⟨he.1, grow_of_below he.2.1 he.2.2⟩) hH (lt_of_block hg) (by simp; omega)
      refine Calls.mono (f := 111) hs fun e w' he => ?_
      obtain ⟨rfl, d, n, os, hp, hso, rfl⟩ := he
      obtain ⟨hsz, _, hperm⟩ := hp
      have hd : d.toList.length = l.length := by simpa using hsz
      have hpm : d.toList.Perm l := by
        have e1 : d.extract 0 l.toArray.size = d := by rw [← hsz]; exact Array.extract_size
        rw [e1, Array.extract_size] at hperm
        simpa using hperm
      refine ⟨rfl, d.toList, hpm, ?_, ?_, grownBy_sortedV _⟩
      · rw [List.pairwise_iff_getElem]
        intro i j hi hj hij
        have hi' : i < d.size := by simpa using hi
        have hj' : j < d.size := by simpa using hj
        have := hso i j (Nat.zero_le _) hij (by simp; omega)
        rw [ltOf_cmpDue, getElem!_pos d j hj', getElem!_pos d i hi'] at this
        simpa using this
      · have hfl : flatK dcells 3 d = (dlist d.toList).toArray := flat_dues d
        have hlen : (dlist d.toList).length = l.length * 3 := by rw [length_dlist, hd]
        refine ⟨hlen, .inr ⟨g, cap, _, rfl, hb, heap_sortedV _ hg, hnc, hcm, by simp [putCells, hcs], ?_⟩⟩
        rw [hfl, ← hlen]
        exact take_putCellsV cur (dlist d.toList) (by rw [hlen, hcs]; exact Nat.mul_le_mul_right _ hnc)

theorem cloneDues_any {w : World} {base : Nat} {v : Value} {l : List Due} (h : w.ownsRow base 94 3 v l.length (dlist l)) (hl : l.length ≤ 1000000) :
    Calls Tryz.prog 110 #[v] w fun e w' => ∃ v', e = .returned v' ∧ w'.ownsRow w.heap.size 94 3 v' l.length (dlist l) ∧ Below w.heap.size w w' := by
  have hh := h
  rcases h.2 with ⟨rfl, h1⟩ | ⟨g, cap, cur, rfl, hb, hg, hnc, hcm, hcs, htake⟩
  · obtain rfl := List.eq_nil_of_length_eq_zero h1
    refine Calls.mono (f := 110) (AnyE.slices_Clone_nil Tryz.laysSlE041 0 0 w) fun e w' he => ?_
    obtain ⟨rfl, rfl⟩ := he
    exact ⟨_, rfl, World.ownsRow_nil _ _ _ _, Below.refl _ _⟩
  · obtain ⟨i0, hi, hz0, hz1, hz2⟩ := info_parts Tryz.infoDue
    have hc : ∀ j u, (dlist l)[j]? = some u → w.cell? ⟨g, 0 + j, none⟩ = some u := by
      intro j u hu
      have hj : j < l.length * 3 := by have := (List.getElem?_eq_some_iff.1 hu).1; rw [length_dlist] at this; exact this
      rw [Nat.zero_add, hh.cellAt j hj, hu]
    have h1 : ∀ u ∈ dlist l, u.oneCell' = true := by
      intro u hu
      obtain ⟨d, _, hd⟩ := List.mem_flatMap.1 hu
      exact dcells_one d u hd
    refine Calls.mono (f := 110) (AnyE.slices_Clone Tryz.laysSlE041 i0 _ 3 24 hi hz0 hz1 hz2 rfl (by decide) (fun w => by kernel_rfl) g 0 l.length cap (dlist l) w (length_dlist l) (by unfold maxLen; omega) (by omega) hc h1) fun e w' he => ?_
    obtain ⟨v', rfl, ho, _, hbw⟩ := he
    exact ⟨v', rfl, ho, hbw⟩

set_option maxRecDepth 100000 in
theorem llist_any {p o : Nat} {S : Spot2 o} {sq : Int} {w : World} {F : List Nat} {l : List Due} (h : LineIs p S sq w F l) :
    Calls Tryz.prog 47 #[.pointer (some ⟨p, o, none⟩)] w fun e w' => ∃ v' d, e = .returned v' ∧ d.Perm l ∧ d.Pairwise (fun x y => ltDue y x = false) ∧ w'.ownsRow w.heap.size 94 3 v' l.length (dlist d) ∧ Below w.heap.size w w' := by
  have hfew := h.few
  obtain ⟨a, ha, hh, hpm⟩ := h
  obtain ⟨v, hp, hr, hne, rfl, hs⟩ := ha
  have hz : a.toList.length = l.length := hpm.length_eq
  have hr' : w.ownsRow 0 94 3 v a.toList.length (dlist a.toList) := hr
  have hcl := cloneDues_any hr' (by rw [hz]; exact hfew)
  have hc := hp.spot1
  obtain ⟨A, c, rfl⟩ := row_form hr
  have HP := Lib.hid (And.intro hpm (And.intro hz hfew))
  clear hp hr hr' hne hs hh hpm hfew hz
  generalize a.size = n at *
  go_enter Tryz.func47, Tryz.ntmps47
  go_wp2_with fail
  refine hcl.mono ?_
  rintro e w1 ⟨v', rfl, ho, hb⟩
  obtain ⟨A', c', rfl⟩ := row_form ho
  have hso := sortDues_own ho (by have := HP.out; omega)
  have HB := Lib.hid (And.intro ho hb)
  generalize hm : a.toList.length = m at *
  clear ho hb hcl hc
  go_wp2_with fail
  with_reducible refine hso.mono ?_
  rintro e w2 ⟨rfl, d, hdp, hds, ho2, hg2⟩
  have H2 := Lib.hid (And.intro hdp (And.intro hds (And.intro ho2 hg2)))
  clear hdp hds ho2 hg2 hso
  go_wp2_with fail
  go_ret
  obtain ⟨hpm, hz, hfew⟩ := HP.out
  obtain ⟨ho, hb⟩ := HB.out
  obtain ⟨hdp, hds, ho2, hg2⟩ := H2.out
  refine ⟨_, d, rfl, hdp.trans hpm, hds, ?_, hb.trans ?_⟩
  · rw [← hz]
    exact ho2
  · refine ⟨hg2.os, hg2.tape, hg2.output, hg2.size, fun k hk => hg2.block k (Nat.lt_of_lt_of_le hk hb.size) (fun e => ?_)⟩
    have := (ho.lt k e.symm).1
    omega
end Go.Proofs.YtjimjemogbphaaaGreat
