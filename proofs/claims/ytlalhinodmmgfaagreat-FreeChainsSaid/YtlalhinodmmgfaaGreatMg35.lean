/-
  The calls of a line.
-/
import Derived.Test.YtlalhinodmmgfaaGreatMg26
namespace Go.Proofs.YtlalhinodmmgfaaGreat
open Go.RowKit Go.Sort

/-- A line at p, whose last Seq is sq, that holds what stands in l. -/
def LineIs (p : Nat) {o : Nat} (S : Spot2 o) (sq : Int) (w : World) (F : List Nat) (l : List Due) : Prop := HeapOf ltDue (DueAt p S sq) F l w

theorem LineIs.kept {p o : Nat} {S : Spot2 o} {sq : Int} {w w' : World} {F G : List Nat} {l : List Due} (h : LineIs p S sq w F l) (hk : Kept G w w') (hd : ∀ k ∈ F, k ∉ G) : LineIs p S sq w' F l := by
  obtain ⟨a, ha, h1, h2⟩ := h
  exact ⟨a, ha.kept hk hd, h1, h2⟩
theorem LineIs.below {p o : Nat} {S : Spot2 o} {sq : Int} {w w' : World} {F : List Nat} {l : List Due} (h : LineIs p S sq w F l) (hb : Below w.heap.size w w') : LineIs p S sq w' F l := h.kept (G := []) (Kept.of_below hb) (by simp)
theorem LineIs.lt {p o : Nat} {S : Spot2 o} {sq : Int} {w : World} {F : List Nat} {l : List Due} (h : LineIs p S sq w F l) : ∀ k ∈ F, k < w.heap.size := by
  obtain ⟨a, ha, _⟩ := h
  exact ha.lt
theorem LineIs.perm {p o : Nat} {S : Spot2 o} {sq : Int} {w : World} {F : List Nat} {l m : List Due} (h : LineIs p S sq w F l) (hp : l.Perm m) : LineIs p S sq w F m := by
  obtain ⟨a, ha, h1, h2⟩ := h
  exact ⟨a, ha, h1, h2.trans hp⟩
theorem LineIs.few {p o : Nat} {S : Spot2 o} {sq : Int} {w : World} {F : List Nat} {l : List Due} (h : LineIs p S sq w F l) : l.length ≤ 1000000 := by
  obtain ⟨a, ⟨_, _, _, _, _, hs⟩, h1, h2⟩ := h
  have := h2.length_eq
  simp at this
  omega

/-- x is the least of x :: s. -/
theorem line_first {a : Array Due} {x : Due} {s : List Due} (hh : HeapFrom ltDue a a.size 0) (hp : a.toList.Perm (x :: s)) (hm : ∀ y ∈ s, ltDue x y = true) : 0 < a.size ∧ a[0]! = x := by
  have hl : a.size = s.length + 1 := by simpa using hp.length_eq
  have h0 : 0 < a.size := by omega
  refine ⟨h0, ?_⟩
  have hin : a[0]! ∈ a.toList := by
    have : a[0]! = a[0] := by simp [h0]
    rw [this]; simp
  rcases List.mem_cons.1 (hp.mem_iff.1 hin) with h | h
  · exact h
  · have h1 := hm _ h
    have hx : x ∈ a.toList := hp.mem_iff.2 (by simp)
    obtain ⟨k, hk, hk2⟩ := List.mem_iff_getElem.1 hx
    have hk' : k < a.size := by simpa using hk
    have e : a.toList[k] = a[k]! := by simp [hk']
    have h2 := hh.least swo_due k hk'
    rw [← e, hk2, h1] at h2
    cases h2

/-- A line that lies alone. -/
def plainSpot2 : Spot2 0 := ⟨105, fun s v => #[s, v], fun _ _ => rfl, fun _ _ => rfl, fun _ _ _ => rfl, fun _ _ _ => rfl⟩

theorem DueAt.count {p o : Nat} {S : Spot2 o} {sq : Int} {w : World} {F : List Nat} {a : Array Due} (h : DueAt p S sq w F a) (z : Int) : DueAt p S z (w.setCell ⟨p, o, none⟩ (.int .i64 z)) F a ∧ Kept F w (w.setCell ⟨p, o, none⟩ (.int .i64 z)) ∧ w.cell? ⟨p, o, none⟩ = some (.int .i64 sq) ∧ w.frozen? ⟨p, o, none⟩ = false := by
  obtain ⟨v, hp, hr, hne, rfl, hs⟩ := h
  refine ⟨⟨v, hp.respot0 (.int .i64 z), hr.kept (grownBy_setCell w ⟨p, o, none⟩ _) ?_, hne, rfl, hs⟩, (Kept.refl _ _).setCell (p := ⟨p, o, none⟩) (by simp) _, hp.spot0, hp.free o⟩
  rcases hv : v.ownBlock with _ | g
  · exact .inl rfl
  · exact .inr (by simpa using hne g hv)

set_option maxRecDepth 100000 in
set_option maxHeartbeats 1000000 in
theorem lput_any {p o : Nat} {S : Spot2 o} {sq : Nat} {w : World} {F : List Nat} {l : List Due} (t x : Int) (h : LineIs p S sq w F l) (hl : l.length < 1000000) (hsq : sq ≤ 1000000) :
    Calls Tryz.prog 79 #[.pointer (some ⟨p, o, none⟩), .int .i64 t, .int .i64 x] w fun e w' => e = .returned (.int .i64 ((sq + 1 : Nat) : Int)) ∧ ∃ F', LineIs p S ((sq + 1 : Nat) : Int) w' F' ((t, ((sq + 1 : Nat) : Int), x) :: l) ∧ Goes F w F' w' := by
  obtain ⟨a, ha, hh, hpm⟩ := h
  obtain ⟨z, hz⟩ : ∃ z : Nat, z = sq + 1 := ⟨_, rfl⟩
  obtain ⟨ha1, hk1, hc, hf⟩ := ha.count z
  have hsz : a.size < 1000000 := by have := hpm.length_eq; simp at this; omega
  have hs : (w.setCell ⟨p, o, none⟩ (.int .i64 z)).drew.cell? ⟨p, o, none⟩ = some (.int .i64 z) := (ha1.count 0).2.2.1
  have hpu := hpush_at (dueHO p S z) (t, (z : Int), x) (ha1.kept (G := []) (Kept.refl _ _).drew (by simp)) hh hsz
  rw [← hz]
  have hz1 : (sq : Int) + 1 = z := by omega
  have hz2 : (z : Int) ≤ 1000001 := by omega
  have hmn : min (z : Int) 4611686018427387904 = z := by omega
  have HP := Lib.hid (And.intro hk1 hpm)
  clear ha ha1 hk1 hpm hh hsz hz hl
  have HPU := Lib.hid hpu
  clear hpu
  go_enter Tryz.func79, Tryz.ntmps79
  go_wp2_with fail
  generalize w.setCell ⟨p, o, none⟩ (.int .i64 z) = W at *
  refine wp_region_tills (fun w' => w'.cell? ⟨p, o, none⟩ = some (.int .i64 z)) 12 (by kernel_rfl) ?_
  refine till_takeAt 18 (i := 0) (v := .pointer (some ⟨p, o, none⟩)) rfl rfl (by kernel_rfl) (by kernel_rfl) (by kernel_rfl) (by kernel_rfl) (by kernel_rfl) (fun _ _ _ h => h) (Or.inl ⟨by rfl, fun w' hw' => by obtain q1 := hw'; go_simp⟩) hs ?_
  simp only [List.setIfInBounds_toArray, List.set_cons_zero, List.set_cons_succ]
  refine till_takeAt 19 (i := 1) (v := .pointer (some ⟨p, o, none⟩)) rfl rfl (by kernel_rfl) (by kernel_rfl) (by kernel_rfl) (by kernel_rfl) (by kernel_rfl) (fun _ _ _ h => h) (Or.inl ⟨by rfl, fun w' hw' => by obtain q1 := hw'; go_simp⟩) hs ?_
  simp only [List.setIfInBounds_toArray, List.set_cons_zero, List.set_cons_succ]
  refine till_takeAt 20 (i := 2) (v := .pointer (some ⟨p, o + 1, none⟩)) rfl rfl (by kernel_rfl) (by kernel_rfl) (by kernel_rfl) (by kernel_rfl) (by kernel_rfl) (fun _ _ _ h => h) (Or.inl ⟨by rfl, fun w' hw' => by obtain q1 := hw'; go_simp⟩) hs ?_
  simp only [List.setIfInBounds_toArray, List.set_cons_zero, List.set_cons_succ]
  refine till_takeAt 21 (i := 3) (v := .iface 174 (.pointer (some ⟨p, o + 1, none⟩))) rfl rfl (by kernel_rfl) (by kernel_rfl) (by kernel_rfl) (by kernel_rfl) (by kernel_rfl) (fun _ _ _ h => h) (Or.inl ⟨by rfl, fun w' hw' => by obtain q1 := hw'; go_simp⟩) hs ?_
  simp only [List.setIfInBounds_toArray, List.set_cons_zero, List.set_cons_succ]
  refine till_takeAt 22 (i := 4) (v := .int .i64 t) rfl rfl (by kernel_rfl) (by kernel_rfl) (by kernel_rfl) (by kernel_rfl) (by kernel_rfl) (fun _ _ _ h => h) (Or.inl ⟨by rfl, fun w' hw' => by obtain q1 := hw'; go_simp⟩) hs ?_
  simp only [List.setIfInBounds_toArray, List.set_cons_zero, List.set_cons_succ]
  refine till_takeAt 23 (i := 5) (v := .pointer (some ⟨p, o, none⟩)) rfl rfl (by kernel_rfl) (by kernel_rfl) (by kernel_rfl) (by kernel_rfl) (by kernel_rfl) (fun _ _ _ h => h) (Or.inl ⟨by rfl, fun w' hw' => by obtain q1 := hw'; go_simp⟩) hs ?_
  simp only [List.setIfInBounds_toArray, List.set_cons_zero, List.set_cons_succ]
  refine till_takeAt 24 (i := 6) (v := .pointer (some ⟨p, o, none⟩)) rfl rfl (by kernel_rfl) (by kernel_rfl) (by kernel_rfl) (by kernel_rfl) (by kernel_rfl) (fun _ _ _ h => h) (Or.inl ⟨by rfl, fun w' hw' => by obtain q1 := hw'; go_simp⟩) hs ?_
  simp only [List.setIfInBounds_toArray, List.set_cons_zero, List.set_cons_succ]
  refine till_takeAt 25 (i := 7) (v := .pointer (some ⟨p, o, none⟩)) rfl rfl (by kernel_rfl) (by kernel_rfl) (by kernel_rfl) (by kernel_rfl) (by kernel_rfl) (fun _ _ _ h => h) (Or.inl ⟨by rfl, fun w' hw' => by obtain q1 := hw'; go_simp⟩) hs ?_
  simp only [List.setIfInBounds_toArray, List.set_cons_zero, List.set_cons_succ]
  refine till_takeAt 26 (i := 8) (v := .int .i64 z) rfl rfl (by kernel_rfl) (by kernel_rfl) (by kernel_rfl) (by kernel_rfl) (by kernel_rfl) (fun _ _ _ h => h) (Or.inl ⟨by rfl, fun w' hw' => by obtain q1 := hw'; go_simp⟩) hs ?_
  simp only [List.setIfInBounds_toArray, List.set_cons_zero, List.set_cons_succ]
  refine till_takeAt 27 (i := 9) (v := .int .i64 x) rfl rfl (by kernel_rfl) (by kernel_rfl) (by kernel_rfl) (by kernel_rfl) (by kernel_rfl) (fun _ _ _ h => h) (Or.inl ⟨by rfl, fun w' hw' => by obtain q1 := hw'; go_simp⟩) hs ?_
  simp only [List.setIfInBounds_toArray, List.set_cons_zero, List.set_cons_succ]
  refine till_takeAt 28 (i := 10) (v := .agg #[.int .i64 t, .int .i64 z, .int .i64 x]) rfl rfl (by kernel_rfl) (by kernel_rfl) (by kernel_rfl) (by kernel_rfl) (by kernel_rfl) (fun _ _ _ h => h) (Or.inl ⟨by rfl, fun w' hw' => by obtain q1 := hw'; go_simp⟩) hs ?_
  simp only [List.setIfInBounds_toArray, List.set_cons_zero, List.set_cons_succ]
  refine till_takeAt 29 (i := 11) (v := .iface 111 (.agg #[.int .i64 t, .int .i64 z, .int .i64 x])) rfl rfl (by kernel_rfl) (by kernel_rfl) (by kernel_rfl) (by kernel_rfl) (by kernel_rfl) (fun _ _ _ h => h) (Or.inl ⟨by rfl, fun w' hw' => by obtain q1 := hw'; go_simp⟩) hs ?_
  simp only [List.setIfInBounds_toArray, List.set_cons_zero, List.set_cons_succ]
  clear hs
  refine till_one (i := 12) (by kernel_rfl) rfl rfl (fun K hK => ?_)
  go_simp
  refine HPU.out.mono ?_
  rintro e w1 ⟨rfl, F', ⟨b, hb, hh, hpm⟩, hgo⟩
  refine hK _ _ ⟨fun h => absurd h (by omega), till_done (by kernel_rfl) ?_ _⟩
  clear hK
  have hc2 := (hb.count 0).2.2.1
  have HB := Lib.hid (And.intro hb (And.intro hh (And.intro hpm hgo)))
  clear hb hh hpm hgo hc hf
  go_wp2_with fail
  go_ret
  obtain ⟨hb, hh, hpm, hgo⟩ := HB.out
  refine ⟨rfl, F', ⟨b, hb, hh, hpm.trans (HP.out.2.cons _)⟩, ?_⟩
  exact Goes.trans ⟨HP.out.1, fun k hk => .inl hk⟩ (Goes.trans ⟨(Kept.refl F _).drew, fun k hk => .inl hk⟩ hgo)

set_option maxRecDepth 100000 in
theorem qfirst_some {p o : Nat} {S : Spot2 o} {sq : Int} {w : World} {F : List Nat} {a : Array Due} (h : DueAt p S sq w F a) (h0 : 0 < a.size) :
    Calls Tryz.prog 123 #[.pointer (some ⟨p, o + 1, none⟩)] w fun e w' => e = .returned (.tuple #[dval a[0]!, .bool true]) ∧ Below w.heap.size w w' := by
  obtain ⟨g, cap, hp, hr, hne, rfl, hcap, hs, hm⟩ := h.open h0
  have hc := hp.spot1
  have r0 := due_range hr h0
  generalize a[0]! = x at *
  generalize a.size = n at *
  have hgl := (hr.lt g rfl).2
  have hpl := hp.inside
  have hz : ((n : Int) == 0) = false := by simp; omega
  have hb : decide ((0 : Int) < (n : Int)) = true := by simp; omega
  have c0 := r0 0 (.int .i64 x.1) rfl
  have c1 := r0 1 (.int .i64 x.2.1) rfl
  have c2 := r0 2 (.int .i64 x.2.2) rfl
  simp only [Nat.zero_mul, Nat.zero_add, Nat.add_zero] at c0 c1 c2
  clear h hp hr r0
  unfold dval
  go_enter Tryz.func123, Tryz.ntmps123
  go_wp2
  exact bodyPost_ret (v := .tuple #[.agg #[.int .i64 x.1, .int .i64 x.2.1, .int .i64 x.2.2], .bool true]) (by simp [results, Tryz.results123, go_sem]) rfl ⟨rfl, (Below.refl _ _).alloc (Nat.le_refl _) _⟩

def dzero : Value := .agg #[.int .i64 0, .int .i64 0, .int .i64 0]

theorem qfirst_none {p o : Nat} {S : Spot2 o} {sq : Int} {w : World} {F : List Nat} {a : Array Due} (h : DueAt p S sq w F a) (h0 : a.size = 0) :
    Calls Tryz.prog 123 #[.pointer (some ⟨p, o + 1, none⟩)] w fun e w' => e = .returned (.tuple #[dzero, .bool false]) ∧ Below w.heap.size w w' := by
  obtain ⟨v, hp, hr, hne, rfl, hs⟩ := h
  rw [h0] at hr
  obtain ⟨A, c, rfl⟩ := row_form hr
  have hc := hp.spot1
  have hpl := hp.inside
  clear hp hr h0
  unfold dzero
  go_enter Tryz.func123, Tryz.ntmps123
  go_wp2
  exact bodyPost_ret (v := .tuple #[.agg #[.int .i64 0, .int .i64 0, .int .i64 0], .bool false]) (by simp [results, Tryz.results123, go_sem]) rfl ⟨rfl, ((Below.refl _ _).alloc (Nat.le_refl _) _).alloc (by simp) _⟩

set_option maxRecDepth 100000 in
theorem lfirst_some {p o : Nat} {S : Spot2 o} {sq : Int} {w : World} {F : List Nat} {l : List Due} {x : Due} {s : List Due} (h : LineIs p S sq w F l) (hp : l.Perm (x :: s)) (hm : ∀ y ∈ s, ltDue x y = true) :
    Calls Tryz.prog 112 #[.pointer (some ⟨p, o, none⟩)] w fun e w' => e = .returned (.tuple #[dval x, .bool true]) ∧ Below w.heap.size w w' := by
  obtain ⟨a, ha, hh, hpm⟩ := h
  obtain ⟨h0, hx⟩ := line_first hh (hpm.trans hp) hm
  have hmade := Has.made w 111 #[.int .i64 0, .int .i64 0, .int .i64 0]
  have hb0 : Below w.heap.size w (w.alloc (.cells #[.int .i64 0, .int .i64 0, .int .i64 0] 111)) := (Below.refl _ _).alloc (Nat.le_refl _) _
  have hf := qfirst_some (ha.kept (G := []) (Kept.of_below hb0) (by simp)) h0
  rw [hx] at hf
  have hsz : (w.alloc (.cells #[.int .i64 0, .int .i64 0, .int .i64 0] 111)).heap.size = w.heap.size + 1 := by simp
  have H := Lib.hid (And.intro hmade (And.intro hb0 hsz))
  clear ha hh hpm hx hp hm h0 hmade hb0 hsz
  unfold dval at *
  go_enter Tryz.func112, Tryz.ntmps112
  go_wp2_with fail
  refine hf.mono ?_
  rintro e w1 ⟨rfl, hb1⟩
  obtain ⟨hmade, hb0, hsz⟩ := H.out
  rw [hsz] at hb1
  have hm1 := hmade.below hb1 (by omega)
  have d0 := hm1.cell 0
  have d1 := hm1.cell 1
  have d2 := hm1.cell 2
  have f0 := hm1.free 0
  have f1 := hm1.free 1
  have f2 := hm1.free 2
  simp at d0 d1 d2
  have hbb : Below w.heap.size w w1 := hb0.trans (hb1.mono (by omega))
  have HB := Lib.hid hbb
  clear hmade hb0 hsz hb1 hm1 hbb hf H
  go_wp2
  refine bodyPost_ret (v := .tuple #[.agg #[.int .i64 x.1, .int .i64 x.2.1, .int .i64 x.2.2], .bool true]) (by simp [results, Tryz.results112, go_sem, d0, d1, d2]) rfl ⟨rfl, ?_⟩
  exact ((HB.out.setCell (Nat.le_refl _) _).setCell (Nat.le_refl _) _).setCell (Nat.le_refl _) _

set_option maxRecDepth 100000 in
theorem lfirst_none {p o : Nat} {S : Spot2 o} {sq : Int} {w : World} {F : List Nat} (h : LineIs p S sq w F []) :
    Calls Tryz.prog 112 #[.pointer (some ⟨p, o, none⟩)] w fun e w' => e = .returned (.tuple #[dzero, .bool false]) ∧ Below w.heap.size w w' := by
  obtain ⟨a, ha, hh, hpm⟩ := h
  have hmade := Has.made w 111 #[.int .i64 0, .int .i64 0, .int .i64 0]
  have hb0 : Below w.heap.size w (w.alloc (.cells #[.int .i64 0, .int .i64 0, .int .i64 0] 111)) := (Below.refl _ _).alloc (Nat.le_refl _) _
  have hf := qfirst_none (ha.kept (G := []) (Kept.of_below hb0) (by simp)) (by simpa using hpm.length_eq)
  have hsz : (w.alloc (.cells #[.int .i64 0, .int .i64 0, .int .i64 0] 111)).heap.size = w.heap.size + 1 := by simp
  have H := Lib.hid (And.intro hmade (And.intro hb0 hsz))
  clear ha hh hpm hmade hb0 hsz
  unfold dzero at *
  go_enter Tryz.func112, Tryz.ntmps112
  go_wp2_with fail
  refine hf.mono ?_
  rintro e w1 ⟨rfl, hb1⟩
  obtain ⟨hmade, hb0, hsz⟩ := H.out
  rw [hsz] at hb1
  have hm1 := hmade.below hb1 (by omega)
  have d0 := hm1.cell 0
  have d1 := hm1.cell 1
  have d2 := hm1.cell 2
  have f0 := hm1.free 0
  have f1 := hm1.free 1
  have f2 := hm1.free 2
  simp at d0 d1 d2
  have hbb : Below w.heap.size w w1 := hb0.trans (hb1.mono (by omega))
  have HB := Lib.hid hbb
  clear hmade hb0 hsz hb1 hm1 hbb hf H
  go_wp2
  refine bodyPost_ret (v := .tuple #[.agg #[.int .i64 0, .int .i64 0, .int .i64 0], .bool false]) (by simp [results, Tryz.results112, go_sem, d0, d1, d2]) rfl ⟨rfl, ?_⟩
  exact ((HB.out.setCell (Nat.le_refl _) _).setCell (Nat.le_refl _) _).setCell (Nat.le_refl _) _

theorem llen_any {p o : Nat} {S : Spot2 o} {sq : Int} {w : World} {F : List Nat} {l : List Due} (h : LineIs p S sq w F l) :
    Calls Tryz.prog 175 #[.pointer (some ⟨p, o, none⟩)] w fun e w' => e = .returned (.int .i64 (l.length : Nat)) ∧ w' = w := by
  obtain ⟨a, ha, hh, hpm⟩ := h
  have hl := dlen_any ha
  rw [show a.size = l.length by simpa using hpm.length_eq] at hl
  clear ha hh hpm
  generalize l.length = n at *
  go_enter Tryz.func175, Tryz.ntmps175
  go_wp2_with fail
  refine hl.mono ?_
  rintro e w' ⟨rfl, rfl⟩
  go_wp2_with fail
  go_ret
  exact ⟨rfl, rfl⟩

set_option maxRecDepth 100000 in
set_option maxHeartbeats 1000000 in
theorem ltake_due {p o : Nat} {S : Spot2 o} {sq : Int} {w : World} {F : List Nat} {l : List Due} {x : Due} {s : List Due} (now : Int) (h : LineIs p S sq w F l) (hp : l.Perm (x :: s)) (hm : ∀ y ∈ s, ltDue x y = true) (hn : x.1 ≤ now) :
    Calls Tryz.prog 82 #[.pointer (some ⟨p, o, none⟩), .int .i64 now] w fun e w' => e = .returned (.tuple #[dval x, .bool true]) ∧ LineIs p S sq w' F s ∧ Kept F w w' := by
  have hmade := Has.made w 111 #[.int .i64 0, .int .i64 0, .int .i64 0]
  have hb0 : Below w.heap.size w (w.alloc (.cells #[.int .i64 0, .int .i64 0, .int .i64 0] 111)) := (Below.refl _ _).alloc (Nat.le_refl _) _
  have hsz : (w.alloc (.cells #[.int .i64 0, .int .i64 0, .int .i64 0] 111)).heap.size = w.heap.size + 1 := by simp
  have hlt := h.lt
  have h1 := h.below hb0
  have hf := lfirst_some h1 hp hm
  have H := Lib.hid (And.intro hmade (And.intro hb0 (And.intro hsz (And.intro h1 (And.intro hp (And.intro hm hlt))))))
  have hnn : decide (now < x.1) = false := by simpa using hn
  clear hmade hb0 hsz hlt h1 h hp hm hn
  unfold dval at *
  go_enter Tryz.func82, Tryz.ntmps82
  go_wp2_with fail
  refine hf.mono ?_
  rintro e w1 ⟨rfl, hb1⟩
  obtain ⟨hmade, hb0, hsz, h1, hp, hm, hlt⟩ := H.out
  rw [hsz] at hb1
  obtain ⟨a, ha, hh, hpm⟩ := h1
  obtain ⟨h0, hx⟩ := line_first hh (hpm.trans hp) hm
  have hm1 := hmade.below hb1 (by omega)
  have hmx := Has.made w1 111 #[.int .i64 x.1, .int .i64 x.2.1, .int .i64 x.2.2]
  have hb2 : Below w1.heap.size w1 (w1.alloc (.cells #[.int .i64 x.1, .int .i64 x.2.1, .int .i64 x.2.2] 111)) := (Below.refl _ _).alloc (Nat.le_refl _) _
  have hz1 : w.heap.size < w1.heap.size := by have := hb1.size; omega
  have ha2 := (ha.kept (G := []) (Kept.of_below (hsz ▸ hb1)) (by simp)).kept (G := []) (Kept.of_below hb2) (by simp)
  have hpo := hpop_at (dueHO p S sq) s ha2 hh h0 (by rw [hx]; exact hpm.trans hp)
  have hmd := hm1.below hb2 (by omega)
  have hk2 : Kept F w (w1.alloc (.cells #[.int .i64 x.1, .int .i64 x.2.1, .int .i64 x.2.2] 111)) := (Kept.of_below ((hb0.trans (hb1.mono (by omega))).trans (hb2.mono (by omega))))
  have hnf : w.heap.size ∉ F := fun hk => by have := hlt _ hk; omega
  have hnf1 : w1.heap.size ∉ F := fun hk => by have := hlt _ hk; omega
  have HM := Lib.hid (And.intro hmd (And.intro hmx (And.intro hk2 (And.intro hnf (And.intro hnf1 hz1)))))
  have cx := hmx.cell 0
  simp at cx
  clear hmade hb0 hsz hp hm hlt ha hh hpm h0 hx hm1 hmx hb2 hz1 ha2 hmd hk2 hnf hnf1 hb1 hf H
  go_wp2_with fail
  refine hpo.mono ?_
  rintro e w2 ⟨rfl, hli, hk3⟩
  obtain ⟨hmd, hmx, hk2, hnf, hnf1, hz1⟩ := HM.out
  have hmd2 := hmd.kept hk3 hnf
  have hmx2 := hmx.kept hk3 hnf1
  have e0 := hmd2.cell 0
  have e1 := hmd2.cell 1
  have e2 := hmd2.cell 2
  have f0 := hmd2.free 0
  have f1 := hmd2.free 1
  have f2 := hmd2.free 2
  have c0 := hmx2.cell 0
  have c1 := hmx2.cell 1
  have c2 := hmx2.cell 2
  simp at e0 e1 e2 c0 c1 c2
  have hfin : LineIs p S sq ((((w2.setCell ⟨w.heap.size, 0, none⟩ (.int .i64 x.1))).setCell ⟨w.heap.size, 1, none⟩ (.int .i64 x.2.1)).setCell ⟨w.heap.size, 2, none⟩ (.int .i64 x.2.2)) F s :=
    LineIs.kept (G := [w.heap.size]) hli ((((Kept.refl _ _).setCell (by simp) _).setCell (by simp) _).setCell (by simp) _) (by intro k hk h; simp at h; subst h; exact hnf hk)
  have hkf : Kept F w ((((w2.setCell ⟨w.heap.size, 0, none⟩ (.int .i64 x.1))).setCell ⟨w.heap.size, 1, none⟩ (.int .i64 x.2.1)).setCell ⟨w.heap.size, 2, none⟩ (.int .i64 x.2.2)) :=
    (((hk2.trans hk3).setCell (.inr (Nat.le_refl _)) _).setCell (.inr (Nat.le_refl _)) _).setCell (.inr (Nat.le_refl _)) _
  have HF := Lib.hid (And.intro hfin hkf)
  have hne : w1.heap.size ≠ w.heap.size := by omega
  clear hmd hmx hk2 hnf hnf1 hz1 hmd2 hmx2 hli hk3 hfin hkf hpo HM cx
  go_wp2
  refine bodyPost_ret (v := .tuple #[.agg #[.int .i64 x.1, .int .i64 x.2.1, .int .i64 x.2.2], .bool true]) (by simp [results, Tryz.results82, go_sem, e0, e1, e2]) rfl ⟨rfl, HF.out.1, HF.out.2⟩

set_option maxRecDepth 100000 in
set_option maxHeartbeats 1000000 in
theorem ltake_late {p o : Nat} {S : Spot2 o} {sq : Int} {w : World} {F : List Nat} {l : List Due} {x : Due} {s : List Due} (now : Int) (h : LineIs p S sq w F l) (hp : l.Perm (x :: s)) (hm : ∀ y ∈ s, ltDue x y = true) (hn : now < x.1) :
    Calls Tryz.prog 82 #[.pointer (some ⟨p, o, none⟩), .int .i64 now] w fun e w' => e = .returned (.tuple #[dzero, .bool false]) ∧ Below w.heap.size w w' := by
  have hmade := Has.made w 111 #[.int .i64 0, .int .i64 0, .int .i64 0]
  have hb0 : Below w.heap.size w (w.alloc (.cells #[.int .i64 0, .int .i64 0, .int .i64 0] 111)) := (Below.refl _ _).alloc (Nat.le_refl _) _
  have hsz : (w.alloc (.cells #[.int .i64 0, .int .i64 0, .int .i64 0] 111)).heap.size = w.heap.size + 1 := by simp
  have hf := lfirst_some (h.below hb0) hp hm
  have H := Lib.hid (And.intro hmade (And.intro hb0 hsz))
  have hnn : decide (now < x.1) = true := by simpa using hn
  clear hmade hb0 hsz h hp hm hn
  unfold dval dzero at *
  go_enter Tryz.func82, Tryz.ntmps82
  go_wp2_with fail
  refine hf.mono ?_
  rintro e w1 ⟨rfl, hb1⟩
  obtain ⟨hmade, hb0, hsz⟩ := H.out
  rw [hsz] at hb1
  have hm1 := hmade.below hb1 (by omega)
  have hb2 : Below w.heap.size w w1 := hb0.trans (hb1.mono (by omega))
  have hlt : w.heap.size < w1.heap.size := by have := hb1.size; omega
  have d0 := hm1.cell 0
  have d1 := hm1.cell 1
  have d2 := hm1.cell 2
  have f0 := hm1.free 0
  have f1 := hm1.free 1
  have f2 := hm1.free 2
  simp at d0 d1 d2
  have HF := Lib.hid hb2
  clear hmade hb0 hsz hb1 hm1 hb2 hf H
  go_wp2
  refine bodyPost_ret (v := .tuple #[.agg #[.int .i64 0, .int .i64 0, .int .i64 0], .bool false]) (by simp [results, Tryz.results82, go_sem, d0, d1, d2, hlt]) rfl ⟨rfl, ?_⟩
  have hle := Nat.le_of_lt hlt
  first
    | exact (((HF.out.alloc hle _).setCell (Nat.le_refl _) _).setCell (Nat.le_refl _) _).setCell (Nat.le_refl _) _
    | exact (((HF.out.setCell (Nat.le_refl _) _).setCell (Nat.le_refl _) _).setCell (Nat.le_refl _) _).alloc (by simpa [World.setCell] using hle) _

set_option maxRecDepth 100000 in
set_option maxHeartbeats 1000000 in
theorem ltake_none {p o : Nat} {S : Spot2 o} {sq : Int} {w : World} {F : List Nat} (now : Int) (h : LineIs p S sq w F []) :
    Calls Tryz.prog 82 #[.pointer (some ⟨p, o, none⟩), .int .i64 now] w fun e w' => e = .returned (.tuple #[dzero, .bool false]) ∧ Below w.heap.size w w' := by
  have hmade := Has.made w 111 #[.int .i64 0, .int .i64 0, .int .i64 0]
  have hb0 : Below w.heap.size w (w.alloc (.cells #[.int .i64 0, .int .i64 0, .int .i64 0] 111)) := (Below.refl _ _).alloc (Nat.le_refl _) _
  have hsz : (w.alloc (.cells #[.int .i64 0, .int .i64 0, .int .i64 0] 111)).heap.size = w.heap.size + 1 := by simp
  have hf := lfirst_none (h.below hb0)
  have H := Lib.hid (And.intro hmade (And.intro hb0 hsz))
  clear hmade hb0 hsz h
  unfold dzero at *
  go_enter Tryz.func82, Tryz.ntmps82
  go_wp2_with fail
  refine hf.mono ?_
  rintro e w1 ⟨rfl, hb1⟩
  obtain ⟨hmade, hb0, hsz⟩ := H.out
  rw [hsz] at hb1
  have hm1 := hmade.below hb1 (by omega)
  have hb2 : Below w.heap.size w w1 := hb0.trans (hb1.mono (by omega))
  have hlt : w.heap.size < w1.heap.size := by have := hb1.size; omega
  have d0 := hm1.cell 0
  have d1 := hm1.cell 1
  have d2 := hm1.cell 2
  have f0 := hm1.free 0
  have f1 := hm1.free 1
  have f2 := hm1.free 2
  simp at d0 d1 d2
  have HF := Lib.hid hb2
  clear hmade hb0 hsz hb1 hm1 hb2 hf H
  go_wp2
  refine bodyPost_ret (v := .tuple #[.agg #[.int .i64 0, .int .i64 0, .int .i64 0], .bool false]) (by simp [results, Tryz.results82, go_sem, d0, d1, d2, hlt]) rfl ⟨rfl, ?_⟩
  have hle := Nat.le_of_lt hlt
  first
    | exact (((HF.out.alloc hle _).setCell (Nat.le_refl _) _).setCell (Nat.le_refl _) _).setCell (Nat.le_refl _) _
    | exact (((HF.out.setCell (Nat.le_refl _) _).setCell (Nat.le_refl _) _).setCell (Nat.le_refl _) _).alloc (by simpa [World.setCell] using hle) _
end Go.Proofs.YtlalhinodmmgfaaGreat
