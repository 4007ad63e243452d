/-
  Free pages of a law's own: what each call does; the calls of nil; a first call whose answer the document fixes.
-/
import Derived.Test.YtjimjemogbphaaaQ4
namespace Go.Proofs.Ytjimjemogbphaaa
open Go.RowKit Go.Sort

/-- Free pages at p in blocks that are made since base. -/
def Fre (base : Nat) (w : World) (p : Nat) (l : List Int) (sq : Nat) (m : List Due) (k : List Int) : Prop := ∃ F, FreeIs p w F l (sq : Int) m k ∧ ∀ x ∈ F, base ≤ x

section
variable {base p sq : Nat} {w w' : World} {l k : List Int} {m : List Due}
theorem Fre.below (h : Fre base w p l sq m k) (hb : Below w.heap.size w w') : Fre base w' p l sq m k := by
  obtain ⟨F, h1, h2⟩ := h
  exact ⟨F, h1.below hb, h2⟩
theorem Fre.perm {l' k' : List Int} {m' : List Due} (h : Fre base w p l sq m k) (hl : l.Perm l') (hm : m.Perm m') (hk : k.Perm k') : Fre base w p l' sq m' k' := by
  obtain ⟨F, h1, h2⟩ := h
  exact ⟨F, h1.perm hl hm hk, h2⟩
theorem fre_goes {F F' : List Nat} {l' k' : List Int} {sq' : Nat} {m' : List Due} (hF : ∀ x ∈ F, base ≤ x) (hb : base ≤ w.heap.size) (h : FreeIs p w' F' l' (sq' : Int) m' k') (hg : Goes F w F' w') : Fre base w' p l' sq' m' k' ∧ Below base w w' :=
  ⟨⟨F', h, fun x hx => (hg.2 x hx).elim (hF x) (fun h => by omega)⟩, hg.1.below hb hF⟩

theorem fre_take {x : Int} {s : List Int} (h : Fre base w p l sq m k) (hb : base ≤ w.heap.size) (hp : l.Perm (x :: s)) (hm : ∀ y ∈ s, x ≤ y) :
    Calls Try.prog 9 #[.pointer (some ⟨p, 0, none⟩)] w fun e w' => e = .returned (.tuple #[.int .i64 x, .bool true]) ∧ Fre base w' p s sq m k ∧ Below base w w' := by
  obtain ⟨F, h1, h2⟩ := h
  refine (ftake_some h1 hp hm).mono ?_
  rintro e w' ⟨rfl, F', hf, hg⟩
  exact ⟨rfl, fre_goes h2 hb hf hg⟩
theorem fre_take_none (h : Fre base w p [] sq m k) :
    Calls Try.prog 9 #[.pointer (some ⟨p, 0, none⟩)] w fun e w' => e = .returned (.tuple #[.int .i64 0, .bool false]) ∧ w' = w := by
  obtain ⟨F, h1, h2⟩ := h
  exact ftake_none h1
theorem fre_pin (x : Int) (h : Fre base w p l sq m k) (hb : base ≤ w.heap.size) (hl : k.length < 1000000) :
    Calls Try.prog 8 #[.pointer (some ⟨p, 0, none⟩), .int .i64 x] w fun e w' => e = .returned (.tuple #[]) ∧ Fre base w' p l sq m (x :: k) ∧ Below base w w' := by
  obtain ⟨F, h1, h2⟩ := h
  refine (fpin_any x h1 hl).mono ?_
  rintro e w' ⟨rfl, F', hf, hg⟩
  exact ⟨rfl, fre_goes h2 hb hf hg⟩
theorem fre_unpin (x : Int) (h : Fre base w p l sq m k) (hb : base ≤ w.heap.size) :
    Calls Try.prog 11 #[.pointer (some ⟨p, 0, none⟩), .int .i64 x] w fun e w' => e = .returned (.bool (decide (x ∈ k))) ∧ Fre base w' p l sq m (k.erase x) ∧ Below base w w' := by
  obtain ⟨F, h1, h2⟩ := h
  refine (funpin_any x h1).mono ?_
  rintro e w' ⟨rfl, F', hf, hg⟩
  exact ⟨rfl, fre_goes h2 hb hf hg⟩
theorem fre_len (h : Fre base w p l sq m k) :
    Calls Try.prog 13 #[.pointer (some ⟨p, 0, none⟩)] w fun e w' => e = .returned (.int .i64 (l.length : Nat)) ∧ w' = w := by
  obtain ⟨F, h1, h2⟩ := h
  exact flen_any h1
theorem fre_waiting (h : Fre base w p l sq m k) :
    Calls Try.prog 14 #[.pointer (some ⟨p, 0, none⟩)] w fun e w' => e = .returned (.int .i64 (m.length : Nat)) ∧ w' = w := by
  obtain ⟨F, h1, h2⟩ := h
  exact fwaiting_any h1
theorem fre_list (h : Fre base w p l sq m k) :
    Calls Try.prog 15 #[.pointer (some ⟨p, 0, none⟩)] w fun e w' => ∃ v', e = .returned v' ∧ w'.ownsRow w.heap.size 3 1 v' l.length ((l.mergeSort leInt).map (.int .i64)) ∧ Below w.heap.size w w' := by
  obtain ⟨F, h1, h2⟩ := h
  exact flist_any h1
theorem fre_release (thr : Int) (h : Fre base w p l sq m k) (hb : base ≤ w.heap.size) (hd : Distinct m) (hk : (k = [] ∧ thr = 9223372036854775807) ∨ ∃ s, k.Perm (thr :: s) ∧ ∀ y ∈ s, thr ≤ y) (hfew : l.length + m.length ≤ 1000000) :
    Calls Try.prog 12 #[.pointer (some ⟨p, 0, none⟩)] w fun e w' => e = .returned (.int .i64 ((dueOf thr m).length : Nat)) ∧ Fre base w' p (whats (dueOf thr m) ++ l) sq (lateOf thr m) k ∧ Below base w w' := by
  obtain ⟨F, h1, h2⟩ := h
  refine (frelease_any thr h1 hd hk hfew).mono ?_
  rintro e w' ⟨rfl, F', hf, hg⟩
  exact ⟨rfl, fre_goes h2 hb hf hg⟩
/-- One page is given, in a row that was just made for it. -/
theorem fre_give1 (t x : Int) (h : Fre base w p l sq m k) (hb : base ≤ w.heap.size) (hl : m.length < 1000000) (hsq : sq < 1000000) :
    Calls Try.prog 6 #[.pointer (some ⟨p, 0, none⟩), .int .i64 t, .slice (some ⟨w.heap.size, 0, none⟩) 1 1] (w.alloc (.cells #[.int .i64 x] 3)) fun e w' => e = .returned (.tuple #[]) ∧ Fre base w' p l (sq + 1) ((t, ((sq + 1 : Nat) : Int), x) :: m) k ∧ Below base w w' := by
  have hb0 : Below w.heap.size w (w.alloc (.cells #[.int .i64 x] 3)) := (Below.refl _ _).alloc (Nat.le_refl _) _
  obtain ⟨F, h1, h2⟩ := h
  have hlt := h1.lt
  have hro : ReadsO F (w.alloc (.cells #[.int .i64 x] 3)) (.slice (some ⟨w.heap.size, 0, none⟩) 1 1) ([x].map (.int .i64)) :=
    ⟨some ⟨w.heap.size, 0, none⟩, 1, rfl, fun _ => ⟨w.heap.size, 0, rfl, by simp, fun hF => by have := hlt _ hF; omega, fun j u hu => by
      rw [Nat.zero_add, (Has.made w 3 #[.int .i64 x]).cell j]
      simpa using hu⟩⟩
  refine (fgive_any t (h1.below hb0) hro (by simp; omega) (by simp; omega)).mono ?_
  rintro e w' ⟨rfl, F', hf, hg⟩
  rw [giv_one] at hf
  exact ⟨rfl, fre_goes h2 hb hf (Goes.trans ⟨Kept.of_below hb0, fun x hx => .inl hx⟩ hg)⟩
/-- One page is given back at once, in a row that was just made for it. -/
theorem fre_back1 (x : Int) (h : Fre base w p l sq m k) (hb : base ≤ w.heap.size) (hl : l.length < 1000000) :
    Calls Try.prog 7 #[.pointer (some ⟨p, 0, none⟩), .slice (some ⟨w.heap.size, 0, none⟩) 1 1] (w.alloc (.cells #[.int .i64 x] 3)) fun e w' => e = .returned (.tuple #[]) ∧ Fre base w' p (x :: l) sq m k ∧ Below base w w' := by
  have hb0 : Below w.heap.size w (w.alloc (.cells #[.int .i64 x] 3)) := (Below.refl _ _).alloc (Nat.le_refl _) _
  obtain ⟨F, h1, h2⟩ := h
  have hlt := h1.lt
  have hro : ReadsO F (w.alloc (.cells #[.int .i64 x] 3)) (.slice (some ⟨w.heap.size, 0, none⟩) 1 1) ([x].map (.int .i64)) :=
    ⟨some ⟨w.heap.size, 0, none⟩, 1, rfl, fun _ => ⟨w.heap.size, 0, rfl, by simp, fun hF => by have := hlt _ hF; omega, fun j u hu => by
      rw [Nat.zero_add, (Has.made w 3 #[.int .i64 x]).cell j]
      simpa using hu⟩⟩
  refine (fback_any (h1.below hb0) hro (by simp; omega)).mono ?_
  rintro e w' ⟨rfl, F', hf, hg⟩
  exact ⟨rfl, fre_goes h2 hb hf (Goes.trans ⟨Kept.of_below hb0, fun x hx => .inl hx⟩ hg)⟩
theorem fre_new {v : Value} (h : ReadsO [] w v (l.map (.int .i64))) (hl : l.length ≤ 1000000) :
    Calls Try.prog 17 #[v] w fun e w' => e = .returned (.pointer (some ⟨w.heap.size, 0, none⟩)) ∧ Fre w.heap.size w' w.heap.size l 0 [] [] ∧ Below w.heap.size w w' := fnew_any h hl
theorem Fre.base_le {base' : Nat} (h : Fre base w p l sq m k) (hb : base' ≤ base) : Fre base' w p l sq m k := by
  obtain ⟨F, h1, h2⟩ := h
  exact ⟨F, h1, fun x hx => Nat.le_trans hb (h2 x hx)⟩
end

/-- What rises stays as it is. -/
theorem sorted_id {l : List Int} (h : l.Pairwise fun a b => a ≤ b) : l.mergeSort leInt = l :=
  List.Perm.eq_of_pairwise (le := fun a b => a ≤ b) (fun _ _ _ _ h1 h2 => Int.le_antisymm h1 h2) (srt_le l) h (List.mergeSort_perm l leInt)

/-! ### nil -/
theorem give_nil (t : Int) (v : Value) (w : World) : Calls Try.prog 6 #[.pointer none, .int .i64 t, v] w fun e w' => e = .returned (.tuple #[]) ∧ w' = w := by
  go_enter Try.func6, Try.ntmps6
  go_wp2
  exact bodyPost_ret (results_none rfl _ _ _) rfl ⟨rfl, rfl⟩
theorem back_nil (v : Value) (w : World) : Calls Try.prog 7 #[.pointer none, v] w fun e w' => e = .returned (.tuple #[]) ∧ w' = w := by
  go_enter Try.func7, Try.ntmps7
  go_wp2
  exact bodyPost_ret (results_none rfl _ _ _) rfl ⟨rfl, rfl⟩
theorem pin_nil (x : Int) (w : World) : Calls Try.prog 8 #[.pointer none, .int .i64 x] w fun e w' => e = .returned (.tuple #[]) ∧ w' = w := by
  go_enter Try.func8, Try.ntmps8
  go_wp2
  exact bodyPost_ret (results_none rfl _ _ _) rfl ⟨rfl, rfl⟩
theorem ftake_nil (w : World) : Calls Try.prog 9 #[.pointer none] w fun e w' => e = .returned (.tuple #[.int .i64 0, .bool false]) ∧ w' = w := by
  go_enter Try.func9, Try.ntmps9
  go_wp2
  go_ret2
  exact ⟨rfl, rfl⟩
theorem funpin_nil (x : Int) (w : World) : Calls Try.prog 11 #[.pointer none, .int .i64 x] w fun e w' => e = .returned (.bool false) ∧ w' = w := by
  go_enter Try.func11, Try.ntmps11
  go_wp2
  go_ret
  exact ⟨rfl, rfl⟩
theorem frelease_nil (w : World) : Calls Try.prog 12 #[.pointer none] w fun e w' => e = .returned (.int .i64 0) ∧ w' = w := by
  go_enter Try.func12, Try.ntmps12
  go_wp2
  go_ret
  exact ⟨rfl, rfl⟩
theorem flen_nil (w : World) : Calls Try.prog 13 #[.pointer none] w fun e w' => e = .returned (.int .i64 0) ∧ w' = w := by
  go_enter Try.func13, Try.ntmps13
  go_wp2
  go_ret
  exact ⟨rfl, rfl⟩
theorem fwaiting_nil (w : World) : Calls Try.prog 14 #[.pointer none] w fun e w' => e = .returned (.int .i64 0) ∧ w' = w := by
  go_enter Try.func14, Try.ntmps14
  go_wp2
  go_ret
  exact ⟨rfl, rfl⟩
theorem flist_nil (w : World) : Calls Try.prog 15 #[.pointer none] w fun e w' => e = .returned (.slice none 0 0) ∧ w' = w := by
  go_enter Try.func15, Try.ntmps15
  go_wp2
  go_ret
  exact ⟨rfl, rfl⟩
theorem fall_nil (w : World) : Calls Try.prog 16 #[.pointer none] w fun e w' => e = .returned (.slice none 0 0) ∧ w' = w := by
  go_enter Try.func16, Try.ntmps16
  go_wp2
  go_ret
  exact ⟨rfl, rfl⟩

set_option maxRecDepth 100000 in
set_option maxHeartbeats 2000000 in
theorem alive6_any (w : World) : Calls Try.prog 10 #[] w fun e w' => e = .returned (.bool true) ∧ Below w.heap.size w w' := by
  have hr : ReadsO [] (w.alloc (.cells #[.int .i64 9, .int .i64 4] 3)) (.slice (some ⟨w.heap.size, 0, none⟩) 2 2) ([9, 4].map (.int .i64)) := by
    refine ⟨some ⟨w.heap.size, 0, none⟩, 2, rfl, fun _ => ⟨w.heap.size, 0, rfl, by simp, by simp, fun j u hu => ?_⟩⟩
    rw [Nat.zero_add, (Has.made w _ _).cell j]
    simpa using hu
  have hnew := fre_new hr (by simp)
  have hb0 : Below w.heap.size w (w.alloc (.cells #[.int .i64 9, .int .i64 4] 3)) := (Below.refl _ _).alloc (Nat.le_refl _) _
  have hsz : (w.alloc (.cells #[.int .i64 9, .int .i64 4] 3)).heap.size = w.heap.size + 1 := by simp
  rw [hsz] at hnew
  have H0 := Lib.hid hb0
  clear hr hb0
  go_enter Try.func10, Try.ntmps10
  go_wp2_with fail
  refine hnew.mono ?_
  rintro e w1 ⟨rfl, hf, hb1⟩
  have hbb : Below w.heap.size w w1 := H0.out.trans (hb1.mono (by omega))
  have hg := fre_give1 7 5 (hf.base_le (Nat.le_succ w.heap.size)) hbb.size (by decide) (by decide)
  have HB := Lib.hid hbb
  clear hf hb1 hbb hnew hsz H0
  generalize w.heap.size + 1 = p at *
  go_wp2_with fail
  refine hg.mono ?_
  rintro e w2 ⟨rfl, hf, hb⟩
  have hbb := HB.out.trans hb
  have hp := fre_pin 6 hf hbb.size (by decide)
  have HB2 := Lib.hid hbb
  clear hf hb hbb hg HB
  go_wp2_with fail
  refine hp.mono ?_
  rintro e w3 ⟨rfl, hf, hb⟩
  have hbb := HB2.out.trans hb
  have hr := fre_release 6 hf hbb.size (by unfold Distinct; decide) (.inr ⟨[], List.Perm.refl _, by simp⟩) (by decide)
  rw [show (dueOf 6 [((7 : Int), ((0 + 1 : Nat) : Int), (5 : Int))]) = [] by decide, show (lateOf 6 [((7 : Int), ((0 + 1 : Nat) : Int), (5 : Int))]) = [((7 : Int), ((0 + 1 : Nat) : Int), (5 : Int))] by decide] at hr
  have HB3 := Lib.hid hbb
  clear hf hb hbb hp HB2
  go_wp2_with fail
  refine hr.mono ?_
  rintro e w4 ⟨rfl, hf, hb⟩
  have hbb := HB3.out.trans hb
  have ht := fre_take (x := 4) (s := [9]) hf hbb.size (by decide) (by decide)
  have HB4 := Lib.hid hbb
  clear hf hb hbb hr HB3
  go_wp2_with fail
  refine ht.mono ?_
  rintro e w5 ⟨rfl, hf, hb⟩
  have hbb := HB4.out.trans hb
  have hu := fre_unpin 6 hf hbb.size
  rw [show decide ((6 : Int) ∈ [(6 : Int)]) = true by decide, show [(6 : Int)].erase 6 = [] by decide] at hu
  have HB5 := Lib.hid hbb
  clear hf hb hbb ht HB4
  go_wp2_with fail
  refine hu.mono ?_
  rintro e w6 ⟨rfl, hf, hb⟩
  have hbb := HB5.out.trans hb
  have hr := fre_release 9223372036854775807 hf hbb.size (by unfold Distinct; decide) (.inl ⟨rfl, rfl⟩) (by decide)
  rw [show (dueOf 9223372036854775807 [((7 : Int), ((0 + 1 : Nat) : Int), (5 : Int))]) = [((7 : Int), ((0 + 1 : Nat) : Int), (5 : Int))] by decide, show (lateOf 9223372036854775807 [((7 : Int), ((0 + 1 : Nat) : Int), (5 : Int))]) = [] by decide] at hr
  have HB6 := Lib.hid hbb
  clear hf hb hbb hu HB5
  go_wp2_with fail
  refine hr.mono ?_
  rintro e w7 ⟨rfl, hf, hb⟩
  have hbb := HB6.out.trans hb
  have hl := fre_list hf
  rw [show (whats [((7 : Int), ((0 + 1 : Nat) : Int), (5 : Int))] ++ [(9 : Int)]) = [5, 9] by decide, sorted_id (show ([5, 9] : List Int).Pairwise (fun a b => a ≤ b) by decide), show ([5, 9] : List Int).length = 2 from rfl] at hl
  have HB7 := Lib.hid hbb
  clear hf hb hbb hr HB6
  go_wp2_with fail
  refine hl.mono ?_
  rintro e w8 ⟨v', rfl, ho, hb⟩
  have hbb := HB7.out.trans (hb.mono HB7.out.size)
  rcases ho.2 with ⟨_, h1⟩ | ⟨g, cap, cur, rfl, hgb, hg, hnc, hcm, hcs, htake⟩
  · omega
  have c0 := ho.cellAt 0 (by omega)
  have c1 := ho.cellAt 1 (by omega)
  simp at c0 c1
  have HB8 := Lib.hid hbb
  clear hb hbb hl HB7 ho hgb hg hnc hcm hcs htake
  go_wp2
  go_ret
  exact ⟨rfl, HB8.out⟩
end Go.Proofs.Ytjimjemogbphaaa
