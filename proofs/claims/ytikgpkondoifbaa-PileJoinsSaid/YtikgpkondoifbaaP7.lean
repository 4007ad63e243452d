/-
  The calls of a nil pile and of a nil line; a first call whose answer the document fixes.
-/
import Derived.Test.YtikgpkondoifbaaP3
import Derived.Test.YtikgpkondoifbaaP6
namespace Go.Proofs.Ytikgpkondoifbaa
open Go.RowKit Go.Sort

theorem put_nil (v : Value) (w : World) : Calls Try.prog 8 #[.pointer none, v] w fun e w' => e = .returned (.tuple #[]) ∧ w' = w := by
  go_enter Try.func8, Try.ntmps8
  go_wp2
  exact bodyPost_ret (results_none rfl _ _ _) rfl ⟨rfl, rfl⟩
theorem first_nil (w : World) : Calls Try.prog 10 #[.pointer none] w fun e w' => e = .returned (.tuple #[.int .i64 0, .bool false]) ∧ w' = w := by
  go_enter Try.func10, Try.ntmps10
  go_wp2
  go_ret2
  exact ⟨rfl, rfl⟩
theorem take_nil (w : World) : Calls Try.prog 9 #[.pointer none] w fun e w' => e = .returned (.tuple #[.int .i64 0, .bool false]) ∧ w' = w := by
  go_enter Try.func9, Try.ntmps9
  go_wp2_with fail
  refine (first_nil _).mono ?_
  rintro e w' ⟨rfl, rfl⟩
  go_wp2_with fail
  go_ret2
  exact ⟨rfl, rfl⟩
theorem len_nil (w : World) : Calls Try.prog 14 #[.pointer none] w fun e w' => e = .returned (.int .i64 0) ∧ w' = w := by
  go_enter Try.func14, Try.ntmps14
  go_wp2
  go_ret
  exact ⟨rfl, rfl⟩
theorem list_nil (w : World) : Calls Try.prog 16 #[.pointer none] w fun e w' => e = .returned (.slice none 0 0) ∧ w' = w := by
  go_enter Try.func16, Try.ntmps16
  go_wp2
  go_ret
  exact ⟨rfl, rfl⟩
theorem drop_nil (x : Int) (w : World) : Calls Try.prog 19 #[.pointer none, .int .i64 x] w fun e w' => e = .returned (.bool false) ∧ w' = w := by
  go_enter Try.func19, Try.ntmps19
  go_wp2
  go_ret
  exact ⟨rfl, rfl⟩
theorem lput_nil (t x : Int) (w : World) : Calls Try.prog 18 #[.pointer none, .int .i64 t, .int .i64 x] w fun e w' => e = .returned (.int .i64 0) ∧ w' = w := by
  go_enter Try.func18, Try.ntmps18
  go_wp2
  go_ret
  exact ⟨rfl, rfl⟩
theorem llen_nil (w : World) : Calls Try.prog 15 #[.pointer none] w fun e w' => e = .returned (.int .i64 0) ∧ w' = w := by
  go_enter Try.func15, Try.ntmps15
  go_wp2
  go_ret
  exact ⟨rfl, rfl⟩
theorem llist_nil (w : World) : Calls Try.prog 17 #[.pointer none] w fun e w' => e = .returned (.slice none 0 0) ∧ w' = w := by
  go_enter Try.func17, Try.ntmps17
  go_wp2
  go_ret
  exact ⟨rfl, rfl⟩
theorem lfirst_nil (w : World) : Calls Try.prog 12 #[.pointer none] w fun e w' => e = .returned (.tuple #[dzero, .bool false]) ∧ Below w.heap.size w w' := by
  unfold dzero
  go_enter Try.func12, Try.ntmps12
  go_wp2
  exact bodyPost_ret (v := .tuple #[.agg #[.int .i64 0, .int .i64 0, .int .i64 0], .bool false]) (by simp [results, Try.results12, go_sem]) rfl ⟨rfl, (Below.refl _ _).alloc (Nat.le_refl _) _⟩
set_option maxRecDepth 100000 in
theorem ltake_nil (now : Int) (w : World) : Calls Try.prog 11 #[.pointer none, .int .i64 now] w fun e w' => e = .returned (.tuple #[dzero, .bool false]) ∧ Below w.heap.size w w' := by
  have hmade := Has.made w 28 #[.int .i64 0, .int .i64 0, .int .i64 0]
  have hb0 : Below w.heap.size w (w.alloc (.cells #[.int .i64 0, .int .i64 0, .int .i64 0] 28)) := (Below.refl _ _).alloc (Nat.le_refl _) _
  have hsz : (w.alloc (.cells #[.int .i64 0, .int .i64 0, .int .i64 0] 28)).heap.size = w.heap.size + 1 := by simp
  have hf := lfirst_nil (w.alloc (.cells #[.int .i64 0, .int .i64 0, .int .i64 0] 28))
  have H := Lib.hid (And.intro hmade (And.intro hb0 hsz))
  clear hmade hb0 hsz
  unfold dzero at *
  go_enter Try.func11, Try.ntmps11
  go_wp2_with fail
  refine hf.mono ?_
  rintro e w1 ⟨rfl, hb1⟩
  obtain ⟨hmade, hb0, hsz⟩ := H.out
  rw [hsz] at hb1
  have hm1 := hmade.below hb1 (by omega)
  have hb2 : Below w.heap.size w w1 := hb0.trans (hb1.mono (by omega))
  have hlt : w.heap.size < w1.heap.size := by have := hb1.size; omega
  have d0 := hm1.cell 0
  have d1 := hm1.cell 1
  have d2 := hm1.cell 2
  have f0 := hm1.free 0
  have f1 := hm1.free 1
  have f2 := hm1.free 2
  simp at d0 d1 d2
  have HF := Lib.hid hb2
  clear hmade hb0 hsz hb1 hm1 hb2 hf H
  go_wp2
  refine bodyPost_ret (v := .tuple #[.agg #[.int .i64 0, .int .i64 0, .int .i64 0], .bool false]) (by simp [results, Try.results11, go_sem, d0, d1, d2, hlt]) rfl ⟨rfl, ?_⟩
  have hle := Nat.le_of_lt hlt
  first
    | exact (((HF.out.alloc hle _).setCell (Nat.le_refl _) _).setCell (Nat.le_refl _) _).setCell (Nat.le_refl _) _
    | exact (((HF.out.setCell (Nat.le_refl _) _).setCell (Nat.le_refl _) _).setCell (Nat.le_refl _) _).alloc (by simpa [World.setCell] using hle) _

/-- A pile and a line side by side, in blocks that are made since base; those of S are others. -/
structure Both (base : Nat) (w : World) (p : Nat) (l : List Int) (q : Nat) (sq : Nat) (m : List Due) (S : List Nat) : Prop where
  it : ∃ F G, PileIs p w F l ∧ LineIs q sq w G m ∧ (∀ k ∈ F, base ≤ k) ∧ (∀ k ∈ G, base ≤ k) ∧ (∀ k ∈ F, k ∉ G) ∧ ∀ k ∈ S, k ∉ F ∧ k ∉ G ∧ k < w.heap.size

/-- What a call of either leaves alone. -/
structure Leaves (base : Nat) (S : List Nat) (w w' : World) : Prop where
  below : Below base w w'
  size : w.heap.size ≤ w'.heap.size
  keep : ∀ k ∈ S, w'.heap[k]? = w.heap[k]?

theorem Leaves.has {base : Nat} {S : List Nat} {w w' : World} (h : Leaves base S w w') {g : Nat} {t : TypeId} {cs : Array Value} (hg : Has w g t cs) (hm : g ∈ S) : Has w' g t cs := (h.keep g hm).trans hg
theorem leaves_of {base : Nat} {S F : List Nat} {w w' : World} (hk : Kept F w w') (hb : base ≤ w.heap.size) (hF : ∀ k ∈ F, base ≤ k) (hS : ∀ k ∈ S, k ∉ F ∧ k < w.heap.size) : Leaves base S w w' :=
  ⟨hk.below hb hF, hk.size, fun k hks => hk.block k (hS k hks).2 (hS k hks).1⟩

theorem Both.below {base : Nat} {w w' : World} {p q sq : Nat} {l : List Int} {m : List Due} {S : List Nat} (h : Both base w p l q sq m S) (hb : Below w.heap.size w w') : Both base w' p l q sq m S := by
  obtain ⟨F, G, h1, h2, h3, h4, h5, h6⟩ := h
  exact ⟨F, G, h1.below hb, h2.below hb, h3, h4, h5, fun k hk => ⟨(h6 k hk).1, (h6 k hk).2.1, Nat.lt_of_lt_of_le (h6 k hk).2.2 hb.size⟩⟩
/-- One more that is none of theirs. -/
theorem Both.more {base : Nat} {w : World} {p q sq : Nat} {l : List Int} {m : List Due} {S : List Nat} (h : Both base w p l q sq m S) (o : Obj) : Both base (w.alloc o) p l q sq m (w.heap.size :: S) := by
  obtain ⟨F, G, h1, h2, h3, h4, h5, h6⟩ := h
  have hb : Below w.heap.size w (w.alloc o) := (Below.refl _ _).alloc (Nat.le_refl _) _
  refine ⟨F, G, h1.below hb, h2.below hb, h3, h4, h5, fun k hk => ?_⟩
  rcases List.mem_cons.1 hk with rfl | hk
  · exact ⟨fun h => by have := h1.lt _ h; omega, fun h => by have := h2.lt _ h; omega, by simp⟩
  · exact ⟨(h6 k hk).1, (h6 k hk).2.1, Nat.lt_of_lt_of_le (h6 k hk).2.2 hb.size⟩

section
variable {base : Nat} {w : World} {p q sq : Nat} {l : List Int} {m : List Due} {S : List Nat}

theorem both_take {x : Int} {s : List Int} (h : Both base w p l q sq m S) (hb : base ≤ w.heap.size) (hp : l.Perm (x :: s)) (hm : ∀ y ∈ s, x ≤ y) :
    Calls Try.prog 9 #[.pointer (some ⟨p, 0, none⟩)] w fun e w' => e = .returned (.tuple #[.int .i64 x, .bool true]) ∧ Both base w' p s q sq m S ∧ Leaves base S w w' := by
  obtain ⟨F, G, h1, h2, h3, h4, h5, h6⟩ := h
  refine (take_some h1 hp hm).mono ?_
  rintro e w' ⟨rfl, hp', hk⟩
  exact ⟨rfl, ⟨F, G, hp', h2.kept hk (fun k hk hF => h5 k hF hk), h3, h4, h5, fun k hks => ⟨(h6 k hks).1, (h6 k hks).2.1, Nat.lt_of_lt_of_le (h6 k hks).2.2 hk.size⟩⟩, leaves_of hk hb h3 (fun k hks => ⟨(h6 k hks).1, (h6 k hks).2.2⟩)⟩

theorem both_lput (t x : Int) (h : Both base w p l q sq m S) (hb : base ≤ w.heap.size) (hl : m.length < 1000000) (hsq : sq ≤ 1000000) :
    Calls Try.prog 18 #[.pointer (some ⟨q, 0, none⟩), .int .i64 t, .int .i64 x] w fun e w' => e = .returned (.int .i64 ((sq + 1 : Nat) : Int)) ∧ Both base w' p l q (sq + 1) ((t, ((sq + 1 : Nat) : Int), x) :: m) S ∧ Leaves base S w w' := by
  obtain ⟨F, G, h1, h2, h3, h4, h5, h6⟩ := h
  refine (lput_any t x h2 hl hsq).mono ?_
  rintro e w' ⟨rfl, G', hl', hg⟩
  exact ⟨rfl, ⟨F, G', h1.kept hg.1 h5, hl', h3, fun k hk => (hg.2 k hk).elim (h4 k) (fun h => by omega), fun k hk hG => (hg.2 k hG).elim (h5 k hk) (fun h => by have := h1.lt k hk; omega),
    fun k hks => ⟨(h6 k hks).1, fun hG => (hg.2 k hG).elim (h6 k hks).2.1 (fun h => by have := (h6 k hks).2.2; omega), Nat.lt_of_lt_of_le (h6 k hks).2.2 hg.1.size⟩⟩,
    leaves_of hg.1 hb h4 (fun k hks => ⟨(h6 k hks).2.1, (h6 k hks).2.2⟩)⟩

theorem both_ltake {x : Due} {s : List Due} (now : Int) (h : Both base w p l q sq m S) (hb : base ≤ w.heap.size) (hp : m.Perm (x :: s)) (hm : ∀ y ∈ s, ltDue x y = true) (hn : x.1 ≤ now) :
    Calls Try.prog 11 #[.pointer (some ⟨q, 0, none⟩), .int .i64 now] w fun e w' => e = .returned (.tuple #[dval x, .bool true]) ∧ Both base w' p l q sq s S ∧ Leaves base S w w' := by
  obtain ⟨F, G, h1, h2, h3, h4, h5, h6⟩ := h
  refine (ltake_due now h2 hp hm hn).mono ?_
  rintro e w' ⟨rfl, hl', hk⟩
  exact ⟨rfl, ⟨F, G, h1.kept hk h5, hl', h3, h4, h5, fun k hks => ⟨(h6 k hks).1, (h6 k hks).2.1, Nat.lt_of_lt_of_le (h6 k hks).2.2 hk.size⟩⟩, leaves_of hk hb h4 (fun k hks => ⟨(h6 k hks).2.1, (h6 k hks).2.2⟩)⟩

theorem both_quiet {w' : World} (h : Both base w p l q sq m S) (hb : base ≤ w.heap.size) (hb' : Below w.heap.size w w') : Both base w' p l q sq m S ∧ Leaves base S w w' := by
  refine ⟨h.below hb', ?_⟩
  obtain ⟨F, G, h1, h2, h3, h4, h5, h6⟩ := h
  exact ⟨hb'.mono hb, hb'.size, fun k hk => hb'.block k (h6 k hk).2.2⟩

theorem both_late {x : Due} {s : List Due} (now : Int) (h : Both base w p l q sq m S) (hb : base ≤ w.heap.size) (hp : m.Perm (x :: s)) (hm : ∀ y ∈ s, ltDue x y = true) (hn : now < x.1) :
    Calls Try.prog 11 #[.pointer (some ⟨q, 0, none⟩), .int .i64 now] w fun e w' => e = .returned (.tuple #[dzero, .bool false]) ∧ Both base w' p l q sq m S ∧ Leaves base S w w' := by
  obtain ⟨F, G, h1, h2, h3, h4, h5, h6⟩ := id h
  refine (ltake_late now h2 hp hm hn).mono ?_
  rintro e w' ⟨rfl, hb'⟩
  exact ⟨rfl, both_quiet h hb hb'⟩

theorem both_len (h : Both base w p l q sq m S) :
    Calls Try.prog 14 #[.pointer (some ⟨p, 0, none⟩)] w fun e w' => e = .returned (.int .i64 (l.length : Nat)) ∧ w' = w := by
  obtain ⟨F, G, h1, h2, h3, h4, h5⟩ := h
  exact len_any h1
end

set_option maxRecDepth 100000 in
set_option maxHeartbeats 2000000 in
theorem alive_any (w : World) : Calls Try.prog 13 #[] w fun e w' => e = .returned (.bool true) ∧ Below w.heap.size w w' := by
  have hr : ReadsO [] (w.alloc (.cells #[.int .i64 3, .int .i64 1, .int .i64 2] 3)) (.slice (some ⟨w.heap.size, 0, none⟩) 3 3) ([3, 1, 2].map (.int .i64)) := by
    refine ⟨some ⟨w.heap.size, 0, none⟩, 3, rfl, fun _ => ⟨w.heap.size, 0, rfl, by simp, by simp, fun j u hu => ?_⟩⟩
    rw [Nat.zero_add, (Has.made w _ _).cell j]
    simpa using hu
  have hnew := new_any hr (by simp)
  have hb0 : Below w.heap.size w (w.alloc (.cells #[.int .i64 3, .int .i64 1, .int .i64 2] 3)) := (Below.refl _ _).alloc (Nat.le_refl _) _
  have hsz : (w.alloc (.cells #[.int .i64 3, .int .i64 1, .int .i64 2] 3)).heap.size = w.heap.size + 1 := by simp
  rw [hsz] at hnew
  have H0 := Lib.hid hb0
  clear hr hb0
  go_enter Try.func13, Try.ntmps13
  go_wp2_with fail
  refine hnew.mono ?_
  rintro e w1 ⟨rfl, ⟨F, hp, hF⟩, hb1⟩
  have H1 := Lib.hid (And.intro hp (And.intro hF hb1))
  clear hp hF hb1 hnew hsz
  go_wp2_with fail
  refine (newLine_any _).mono ?_
  rintro e w2 ⟨rfl, hl, hb2⟩
  obtain ⟨hp, hF, hb1⟩ := H1.out
  have hle : w.heap.size ≤ w1.heap.size := by have := hb1.size; simp at this; omega
  have hbo : Both w.heap.size w2 (w.heap.size + 1) [3, 1, 2] w1.heap.size 0 [] [] :=
    ⟨F, [w1.heap.size], hp.below hb2, hl, fun k hk => by have := hF k hk; omega, by simpa using hle, fun k hk h => by have := hp.lt k hk; simp at h; omega, by simp⟩
  have hbb : Below w.heap.size w w2 := (H0.out.trans (hb1.mono (by simp))).trans (hb2.mono hle)
  have HB := Lib.hid hbb
  have ht := both_take (x := 1) (s := [3, 2]) hbo hbb.size (by decide) (by decide)
  clear hp hF hb1 hl hb2 hbo hbb H1 hle
  generalize w1.heap.size = q at *
  generalize w.heap.size + 1 = p at *
  go_wp2_with fail
  refine ht.mono ?_
  rintro e w3 ⟨rfl, hbo, hb⟩
  have hbb := HB.out.trans hb.below
  have ht2 := both_take (x := 2) (s := [3]) hbo hbb.size (by decide) (by decide)
  have HB2 := Lib.hid hbb
  clear hbo hb hbb ht HB
  go_wp2_with fail
  refine ht2.mono ?_
  rintro e w4 ⟨rfl, hbo, hb⟩
  have hbb := HB2.out.trans hb.below
  have hq := both_lput 5 7 hbo hbb.size (by decide) (by decide)
  have HB3 := Lib.hid hbb
  clear hbo hb hbb ht2 HB2
  go_wp2_with fail
  refine hq.mono ?_
  rintro e w5 ⟨rfl, hbo, hb⟩
  have hbb := HB3.out.trans hb.below
  have hq2 := both_lput 3 8 hbo hbb.size (by decide) (by decide)
  have HB4 := Lib.hid hbb
  clear hbo hb hbb hq HB3
  go_wp2_with fail
  refine hq2.mono ?_
  rintro e w6 ⟨rfl, hbo, hb⟩
  have hbb := HB4.out.trans hb.below
  have hq3 := both_lput 5 9 hbo hbb.size (by decide) (by decide)
  have HB5 := Lib.hid hbb
  clear hbo hb hbb hq2 HB4
  go_wp2_with fail
  refine hq3.mono ?_
  rintro e w7 ⟨rfl, hbo, hb⟩
  have hbb := HB5.out.trans hb.below
  have hx1 := both_ltake (x := (3, 2, 8)) (s := [(5, 3, 9), (5, 1, 7)]) 4 hbo hbb.size (by decide) (by decide) (by decide)
  have HB6 := Lib.hid hbb
  clear hbo hb hbb hq3 HB5
  go_wp2_with fail
  refine hx1.mono ?_
  rintro e w8 ⟨rfl, hbo, hb⟩
  have hbb := HB6.out.trans hb.below
  have ha : Below w8.heap.size w8 (w8.alloc (.cells #[.int .i64 3, .int .i64 2, .int .i64 8] 28)) := (Below.refl _ _).alloc (Nat.le_refl _) _
  have hma := Has.made w8 28 #[.int .i64 3, .int .i64 2, .int .i64 8]
  have hbb2 := hbb.trans (ha.mono hbb.size)
  have hx2 := both_late (x := (5, 1, 7)) (s := [(5, 3, 9)]) 4 (hbo.more (.cells #[.int .i64 3, .int .i64 2, .int .i64 8] 28)) hbb2.size (by decide) (by decide) (by decide)
  have HB7 := Lib.hid (And.intro hbb2 hma)
  unfold dval dzero at *
  clear hbo hb hbb ha hma hbb2 hx1 HB6
  go_wp2_with fail
  refine hx2.mono ?_
  rintro e w9 ⟨rfl, hbo, hb⟩
  obtain ⟨hbb2, hma⟩ := HB7.out
  have hbb := hbb2.trans hb.below
  have hm9 := hb.has hma (by simp)
  have ha : Below w9.heap.size w9 (w9.alloc (.cells #[.int .i64 0, .int .i64 0, .int .i64 0] 28)) := (Below.refl _ _).alloc (Nat.le_refl _) _
  have hbb3 := hbb.trans (ha.mono hbb.size)
  have hx3 := both_ltake (x := (5, 1, 7)) (s := [(5, 3, 9)]) 5 (hbo.more (.cells #[.int .i64 0, .int .i64 0, .int .i64 0] 28)) hbb3.size (by decide) (by decide) (by decide)
  have HB8 := Lib.hid (And.intro hbb3 (hm9.alloc (.cells #[.int .i64 0, .int .i64 0, .int .i64 0] 28)))
  have hlt := hm9.inside
  unfold dval at *
  clear hbo hb hbb ha hma hbb2 hbb3 hm9 hx2 HB7
  generalize w8.heap.size = b8 at *
  go_wp2_with fail
  refine hx3.mono ?_
  rintro e w10 ⟨rfl, hbo, hb⟩
  obtain ⟨hbb3, hm9⟩ := HB8.out
  have hbb := hbb3.trans hb.below
  have hm10 := hb.has hm9 (by simp)
  have ha : Below w10.heap.size w10 (w10.alloc (.cells #[.int .i64 5, .int .i64 1, .int .i64 7] 28)) := (Below.refl _ _).alloc (Nat.le_refl _) _
  have hbb4 := hbb.trans (ha.mono hbb.size)
  have hlen := both_len (hbo.more (.cells #[.int .i64 5, .int .i64 1, .int .i64 7] 28))
  have hlt10 := hm10.inside
  have c2 := hm10.cell 2
  simp at c2
  have HB9 := Lib.hid hbb4
  clear hbo hb hbb ha hm9 hm10 hbb3 hbb4 hx3 HB8 hlt
  rw [show ([3] : List Int).length = 1 from rfl] at hlen
  go_wp2_with fail
  refine hlen.mono ?_
  rintro e w' ⟨rfl, rfl⟩
  clear hlen
  go_wp2
  go_ret
  exact ⟨rfl, HB9.out⟩
end Go.Proofs.Ytikgpkondoifbaa
