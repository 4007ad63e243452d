/-
  A pile of numbers in memory; its five methods as a heap; its first one.
-/
import Derived.Test.YtlignamakiiokaaGreatDoorMg3
import Derived.Test.YtlignamakiiokaaGreatDoorMg5
import Derived.Laws.OwnMore
import Derived.Deep.QuietTactic
import Derived.BigQuiet
import Derived.BigRegion
import Derived.Deep.AppendLies
import Derived.Deep.RegionLaw
import Derived.Test.YtlignamakiiokaaGreatDoorMg6
namespace Go.Proofs.YtlignamakiiokaaGreatDoor
open Go.RowKit Go.Sort

def ints (a : Array Int) : List Value := a.toList.map (Value.int .i64)

/-- Where a slice stands: in cell o of a block of type t, among other cells. -/
structure Spot (o : Nat) where
  t : TypeId
  K : Value → Array Value
  get : ∀ v, (K v)[o]? = some v
  put : ∀ v u, (K v).setIfInBounds o u = K u

section
variable {w w' : World} {p o : Nat} {S : Spot o} {v : Value}
theorem Has.spot (h : Has w p S.t (S.K v)) : w.cell? ⟨p, o, none⟩ = some v := (h.cell o).trans (S.get v)
theorem Has.respot (h : Has w p S.t (S.K v)) (u : Value) : Has (w.setCell ⟨p, o, none⟩ u) p S.t (S.K u) := by
  have := h.put o u
  rwa [S.put] at this
end

/-- A pile at cell o of p: a row of numbers of its own. -/
def NumAt (p : Nat) {o : Nat} (S : Spot o) (w : World) (F : List Nat) (a : Array Int) : Prop :=
  ∃ v, Has w p S.t (S.K v) ∧ w.ownsRow 0 3 1 v a.size (ints a) ∧ (∀ g, v.ownBlock = some g → g ≠ p) ∧ F = p :: v.ownBlock.toList ∧ a.size ≤ 1000000

theorem get_of {α : Type} [Inhabited α] {a : Array α} {i : Nat} (h : i < a.size) : a.toList[i]? = some a[i]! := by simp [h]
theorem ints_at {a : Array Int} {i : Nat} (h : i < a.size) : (ints a)[i]? = some (.int .i64 a[i]!) := by
  unfold ints
  rw [List.getElem?_map, get_of h]
  rfl

theorem NumAt.open {p o : Nat} {S : Spot o} {w : World} {F : List Nat} {a : Array Int} (h : NumAt p S w F a) (h0 : 0 < a.size) :
    ∃ g cap, Has w p S.t (S.K (.slice (some ⟨g, 0, none⟩) a.size cap)) ∧ w.ownsRow 0 3 1 (.slice (some ⟨g, 0, none⟩) a.size cap) a.size (ints a) ∧ g ≠ p ∧ F = [p, g] ∧ a.size ≤ cap ∧ a.size ≤ 1000000 ∧ cap ≤ maxLen := by
  obtain ⟨v, hp, hr, hne, rfl, hs⟩ := h
  rcases hr.2 with ⟨_, h1⟩ | ⟨g, cap, cur, rfl, _, _, hc, hm, _⟩
  · omega
  · exact ⟨g, cap, hp, hr, hne g rfl, rfl, hc, hs, hm⟩

theorem NumAt.lt {p o : Nat} {S : Spot o} {w : World} {F : List Nat} {a : Array Int} (h : NumAt p S w F a) : ∀ k ∈ F, k < w.heap.size := by
  obtain ⟨v, hp, hr, hne, rfl, hs⟩ := h
  intro k hk
  rcases List.mem_cons.1 hk with rfl | hk
  · exact hp.inside
  · exact (hr.lt k (by simpa using hk)).2

theorem NumAt.kept {p o : Nat} {S : Spot o} {w w' : World} {F G : List Nat} {a : Array Int} (h : NumAt p S w F a) (hk : Kept G w w') (hd : ∀ k ∈ F, k ∉ G) : NumAt p S w' F a := by
  obtain ⟨v, hp, hr, hne, rfl, hs⟩ := h
  exact ⟨v, hp.kept hk (hd p (by simp)), row_kept hr hk (fun g hg => hd g (by simp [hg])), hne, rfl, hs⟩

theorem NumAt.drewN {p o : Nat} {S : Spot o} {w : World} {F : List Nat} {a : Array Int} (h : NumAt p S w F a) (n : Nat) : NumAt p S (w.drewN n) F a := h.kept ((Kept.refl [] w).drewN n) (by simp)

theorem nlen_any {p o : Nat} {S : Spot o} {w : World} {F : List Nat} {a : Array Int} (h : NumAt p S w F a) : Calls Tryz.prog 269 #[.pointer (some ⟨p, o, none⟩)] w fun e w' => e = .returned (.int .i64 (a.size : Nat)) ∧ w' = w := by
  obtain ⟨v, hp, hr, hne, rfl, hs⟩ := h
  have hc := hp.spot
  have hn : ∃ A c, v = .slice A a.size c := by
    rcases hr.2 with ⟨h1, h2⟩ | ⟨g, cap, cur, h1, _⟩
    · rw [h2]; exact ⟨_, _, h1⟩
    · exact ⟨_, _, h1⟩
  obtain ⟨A, c, rfl⟩ := hn
  clear hp hr hne
  generalize a.size = n at *
  go_enter Tryz.func269, Tryz.ntmps269
  go_wp2
  go_ret
  exact ⟨rfl, rfl⟩

set_option maxRecDepth 100000 in
theorem nless_any {p o : Nat} {S : Spot o} {w : World} {F : List Nat} {a : Array Int} (i j : Nat) (h : NumAt p S w F a) (hi : i < a.size) (hj : j < a.size) :
    Calls Tryz.prog 276 #[.pointer (some ⟨p, o, none⟩), .int .i64 i, .int .i64 j] w fun e w' => e = .returned (.bool (ltInt a[i]! a[j]!)) ∧ NumAt p S w' F a ∧ Kept F w w' := by
  obtain ⟨g, cap, hp, hr, hne, rfl, hcap, hs, hm⟩ := h.open (by omega)
  have hc := hp.spot
  have ci := (hr.cellAt i (by omega)).trans (ints_at hi)
  have cj := (hr.cellAt j (by omega)).trans (ints_at hj)
  have H := Lib.hid h
  generalize hx : a[i]! = x at *
  generalize hy : a[j]! = y at *
  clear h hp hr hx hy
  generalize hn : a.size = n at *
  clear hn
  have i0 : (0 : Int) ≤ (i : Int) := by omega
  have j0 : (0 : Int) ≤ (j : Int) := by omega
  have i1 : (i : Int) < (n : Int) := by omega
  have j1 : (j : Int) < (n : Int) := by omega
  unfold ltInt
  go_enter Tryz.func276, Tryz.ntmps276
  go_wp2_with fail
  go_quiet (fail)
  go_wp2
  go_ret
  exact ⟨rfl, H.out.drewN _, (Kept.refl _ _).drewN _⟩

theorem ints_swp (a : Array Int) (i j : Nat) : ((ints a).set i (.int .i64 a[j]!)).set j (.int .i64 a[i]!) = ints (swp a i j) := by
  unfold ints swp
  simp [List.map_set]

set_option maxRecDepth 100000 in
set_option maxHeartbeats 1000000 in
theorem nswap_any {p o : Nat} {S : Spot o} {w : World} {F : List Nat} {a : Array Int} (i j : Nat) (h : NumAt p S w F a) (hi : i < a.size) (hj : j < a.size) :
    Calls Tryz.prog 279 #[.pointer (some ⟨p, o, none⟩), .int .i64 i, .int .i64 j] w fun e w' => e = .returned (.tuple #[]) ∧ NumAt p S w' F (swp a i j) ∧ Kept F w w' := by
  obtain ⟨g, cap, hp, hr, hne, rfl, hcap, hs, hm⟩ := h.open (by omega)
  have hc := hp.spot
  have ci := (hr.cellAt i (by omega)).trans (ints_at hi)
  have cj := (hr.cellAt j (by omega)).trans (ints_at hj)
  have fi := hr.frozenAt i
  have fj := hr.frozenAt j
  obtain ⟨hr1, _⟩ := hr.stored i (.int .i64 a[j]!)
  obtain ⟨hr2, _⟩ := hr1.stored j (.int .i64 a[i]!)
  rw [ints_swp a i j] at hr2
  have hsz : (swp a i j).size = a.size := size_swp _ _ _
  have hfin : NumAt p S ((w.setCell ⟨g, i, none⟩ (.int .i64 a[j]!)).setCell ⟨g, j, none⟩ (.int .i64 a[i]!)) [p, g] (swp a i j) :=
    ⟨_, (hp.past (p := ⟨g, i, none⟩) (Ne.symm hne) _).past (p := ⟨g, j, none⟩) (Ne.symm hne) _, by rw [hsz]; exact hr2, by simpa [Value.ownBlock] using hne, rfl, by omega⟩
  have HF := Lib.hid hfin
  obtain ⟨u, hcj⟩ := cell?_setCell_some (w := w) (p := ⟨g, i, none⟩) (x := .int .i64 a[j]!) (q := ⟨g, j, none⟩) (v := .int .i64 a[j]!) (by go_simp)
  generalize hx : a[i]! = x at *
  generalize hy : a[j]! = y at *
  clear h hp hr hx hy hr1 hr2 hfin hsz
  generalize hn : a.size = n at *
  clear hn
  have i0 : (0 : Int) ≤ (i : Int) := by omega
  have j0 : (0 : Int) ≤ (j : Int) := by omega
  have i1 : (i : Int) < (n : Int) := by omega
  have j1 : (j : Int) < (n : Int) := by omega
  have hk : Kept [p, g] w ((w.setCell ⟨g, i, none⟩ (.int .i64 y)).setCell ⟨g, j, none⟩ (.int .i64 x)) := ((Kept.refl _ _).setCell (p := ⟨g, i, none⟩) (by simp) _).setCell (p := ⟨g, j, none⟩) (by simp) _
  have HK := Lib.hid hk
  clear hk
  go_enter Tryz.func279, Tryz.ntmps279
  go_wp2_with fail
  go_region
  all_goals (go_wp2; go_end0)
  all_goals exact ⟨rfl, HF.out.kept (Kept.refl [] _).drew (by simp), HK.out.drew⟩

theorem ints_pop (a : Array Int) (h : 0 < a.size) : ints a = ints a.pop ++ [.int .i64 a[a.size - 1]!] := by
  unfold ints
  rw [toList_pop a h]
  simp

set_option maxRecDepth 100000 in
theorem npop_any {p o : Nat} {S : Spot o} {w : World} {F : List Nat} {a : Array Int} (h : NumAt p S w F a) (h0 : 0 < a.size) :
    Calls Tryz.prog 277 #[.pointer (some ⟨p, o, none⟩)] w fun e w' => e = .returned (.iface 3 (.int .i64 a[a.size - 1]!)) ∧ NumAt p S w' F a.pop ∧ Kept F w w' := by
  obtain ⟨g, cap, hp, hr, hne, rfl, hcap, hs, hm⟩ := h.open h0
  obtain ⟨n, hn⟩ : ∃ n, a.size = n + 1 := ⟨a.size - 1, by omega⟩
  have hz : a.pop.size = n := by simp [hn]
  have cn := (hr.cellAt n (by omega)).trans (ints_at (by omega))
  have hc := hp.spot
  have hf := hp.free o
  have hr2 := hr
  rw [ints_pop a h0, hn] at hr2
  have hr3 := row_less hr2 (by simp [ints, hn])
  have hp2 := hp.respot (.slice (some ⟨g, 0, none⟩) n cap)
  have hr4 : (w.setCell ⟨p, o, none⟩ (.slice (some ⟨g, 0, none⟩) n cap)).ownsRow 0 3 1 (.slice (some ⟨g, 0, none⟩) n cap) n (ints a.pop) :=
    hr3.kept (grownBy_setCell w ⟨p, o, none⟩ _) (.inr (by simpa [Value.ownBlock] using hne))
  have hfin : NumAt p S (w.setCell ⟨p, o, none⟩ (.slice (some ⟨g, 0, none⟩) n cap)) [p, g] a.pop :=
    ⟨_, hp2, by rw [hz]; exact hr4, by simpa [Value.ownBlock] using hne, rfl, by omega⟩
  have hk : Kept [p, g] w (w.setCell ⟨p, o, none⟩ (.slice (some ⟨g, 0, none⟩) n cap)) := (Kept.refl _ _).setCell (p := ⟨p, o, none⟩) (by simp) _
  have HF := Lib.hid (And.intro hfin hk)
  rw [hn, Nat.add_sub_cancel]
  rw [hn] at hc
  clear hfin hk hr2 hr3 hr4 hp2 hp hr h
  generalize hx : a[n]! = x at *
  clear hx
  have hnc : (n : Int) ≤ cap := by omega
  have hn0 : (0 : Int) ≤ n := by omega
  have hnb : n ≤ 1000000 := by omega
  clear hn hz h0 hcap hs
  unfold maxLen at hm
  go_enter Tryz.func277, Tryz.ntmps277
  go_wp2_with fail
  go_ret
  exact ⟨rfl, HF.out.1, HF.out.2⟩

theorem ints_push (a : Array Int) (x : Int) : ints (a.push x) = ints a ++ [.int .i64 x] := by simp [ints]
theorem Tryz.assertInt (x : Int) (w : World) : (Instr.typeAssert (.iface 3 (.int .i64 x)) 20 3 false).run Tryz.prog w = .ok (.int .i64 x) w := by kernel_rfl

set_option maxRecDepth 100000 in
set_option maxHeartbeats 1000000 in
theorem npush_any {p o : Nat} {S : Spot o} {w : World} {F : List Nat} {a : Array Int} (x : Int) (h : NumAt p S w F a) (h1 : a.size < 1000000) :
    Calls Tryz.prog 278 #[.pointer (some ⟨p, o, none⟩), .iface 3 (.int .i64 x)] w fun e w' => e = .returned (.tuple #[]) ∧ ∃ F', NumAt p S w' F' (a.push x) ∧ Goes F w F' w' := by
  obtain ⟨v, hp, hr, hne, rfl, hs⟩ := h
  obtain ⟨i0, hi, hz0, hz1, hz2⟩ := info_parts Tryz.infoInt
  have hTA := Tryz.assertInt x
  obtain ⟨n, hn⟩ : ∃ n, a.size = n := ⟨_, rfl⟩
  rw [hn] at hr hs h1
  obtain ⟨A, cc, rfl⟩ := row_form hr
  have hc := hp.spot
  have hpl := hp.inside
  have hr1 := (World.ownsRow.alloc hr (.cells #[.int .i64 x] 3)).drew
  have hk1 : Kept [] w (w.alloc (.cells #[.int .i64 x] 3)).drew := ((Kept.refl _ _).alloc _).drew
  have hp1 := hp.kept hk1 (by simp)
  have hn1 : (w.alloc (.cells #[.int .i64 x] 3)).drew.cell? ⟨w.heap.size, 0, none⟩ = some (.int .i64 x) := (Has.made w 3 #[.int .i64 x]).cell 0
  have hz1' : (w.alloc (.cells #[.int .i64 x] 3)).drew.heap.size = w.heap.size + 1 := by show (w.alloc _).heap.size = _; simp
  have HP := Lib.hid (And.intro hr1 (And.intro hne (And.intro hk1 (And.intro hn1 (And.intro hz1' (And.intro hn h1))))))
  have HI := Lib.hid (And.intro hi (And.intro hz0 (And.intro hz1 hz2)))
  have hS : w.drew.cell? ⟨p, o, none⟩ = some (.slice A n cc) := hc
  have hS1 : (w.alloc (.cells #[.int .i64 x] 3)).drew.cell? ⟨p, o, none⟩ = some (.slice A n cc) := hp1.spot
  clear hr hs hi hz0 hz1 hz2 hk1 hr1 hc hn1 hz1' hn
  have HQ := Lib.hid hp1
  clear hp hp1 hne h1
  go_enter Tryz.func278, Tryz.ntmps278
  refine wp_region_till (fun w' => w'.cell? ⟨p, o, none⟩ = some (.slice A n cc)) 11 (by kernel_rfl) ?_
  refine anyTill_takeAt 4 (i := 0) (v := .pointer (some ⟨p, o, none⟩)) rfl rfl (by kernel_rfl) (by kernel_rfl) (by kernel_rfl) (by kernel_rfl) (fun _ _ _ h => h) (Or.inl ⟨by rfl, fun w' hw' => by obtain q1 := hw'; go_simp⟩) hS ?_
  simp only [List.setIfInBounds_toArray, List.set_cons_zero, List.set_cons_succ]
  refine anyTill_takeAt 5 (i := 1) (v := .pointer (some ⟨p, o, none⟩)) rfl rfl (by kernel_rfl) (by kernel_rfl) (by kernel_rfl) (by kernel_rfl) (fun _ _ _ h => h) (Or.inl ⟨by rfl, fun w' hw' => by obtain q1 := hw'; go_simp⟩) hS ?_
  simp only [List.setIfInBounds_toArray, List.set_cons_zero, List.set_cons_succ]
  refine anyTill_takeAt 6 (i := 2) (v := .pointer (some ⟨p, o, none⟩)) rfl rfl (by kernel_rfl) (by kernel_rfl) (by kernel_rfl) (by kernel_rfl) (fun _ _ _ h => h) (Or.inl ⟨by rfl, fun w' hw' => by obtain q1 := hw'; go_simp⟩) hS ?_
  simp only [List.setIfInBounds_toArray, List.set_cons_zero, List.set_cons_succ]
  refine anyTill_takeAt 7 (i := 3) (v := .pointer (some ⟨p, o, none⟩)) rfl rfl (by kernel_rfl) (by kernel_rfl) (by kernel_rfl) (by kernel_rfl) (fun _ _ _ h => h) (Or.inl ⟨by rfl, fun w' hw' => by obtain q1 := hw'; go_simp⟩) hS ?_
  simp only [List.setIfInBounds_toArray, List.set_cons_zero, List.set_cons_succ]
  refine anyTill_takeAt 8 (i := 4) (v := .slice A n cc) rfl rfl (by kernel_rfl) (by kernel_rfl) (by kernel_rfl) (by kernel_rfl) (fun _ _ _ h => h) (Or.inl ⟨by rfl, fun w' hw' => by obtain q1 := hw'; go_simp⟩) hS ?_
  simp only [List.setIfInBounds_toArray, List.set_cons_zero, List.set_cons_succ]
  refine anyTill_takeAt 9 (i := 5) (v := .iface 3 (.int .i64 x)) rfl rfl (by kernel_rfl) (by kernel_rfl) (by kernel_rfl) (by kernel_rfl) (fun _ _ _ h => h) (Or.inl ⟨by rfl, fun w' hw' => by obtain q1 := hw'; go_simp⟩) hS ?_
  simp only [List.setIfInBounds_toArray, List.set_cons_zero, List.set_cons_succ]
  refine anyTill_takeAt 10 (i := 6) (v := .int .i64 x) rfl rfl (by kernel_rfl) (by kernel_rfl) (by kernel_rfl) (by kernel_rfl) (fun _ _ _ h => h) (Or.inl ⟨by rfl, fun w' hw' => by obtain q1 := hw'; go_simp⟩) hS ?_
  simp only [List.setIfInBounds_toArray, List.set_cons_zero, List.set_cons_succ]
  refine anyTill_one (i := 7) (by kernel_rfl) rfl rfl (fun K hK => ?_)
  go_simp
  refine hK _ _ ⟨fun _ => hS1, ?_⟩
  clear hK K hTA hS hS1
  obtain ⟨hi, hz0, hz1, hz2⟩ := HI.out
  obtain ⟨hr1, hne, hk1, hn1, hz1', hn, hlt⟩ := HP.out
  have hp1 := HQ.out
  generalize (w.alloc (.cells #[.int .i64 x] 3)).drew = W at *
  refine anyTill_one (i := 8) (by kernel_rfl) rfl rfl (fun K hK => ?_)
  refine wp_append_lies _ (.tmp 8) (.tmp 11) 69 rfl 0 3 i0 (.int .i64 0) 1 8 Tryz.underlying69 hi hz0 hz1 hz2 rfl (by decide) (.slice A n cc) n (ints a) (by rfl) hr1 ⟨w.heap.size, 0, none⟩ 1 1 [.int .i64 x] (by rfl) rfl
    (by intro j u hu; rcases j with _ | j <;> simp at hu; subst hu; exact hn1) (by intro u hu; simp at hu; subst hu; rfl) (by omega) (by unfold maxLen; omega) (by omega) (by omega) _ rfl ?_
  intro g cap w2 hown hgrow hat hgl
  have hk2 : Kept (p :: (Value.slice A n cc).ownBlock.toList) W w2 := Kept.of_grown hgrow (fun k hk => by simp [hk])
  have hp2 : Has w2 p S.t (S.K (.slice A n cc)) := hp1.grown hgrow (fun e => hne p e.symm rfl)
  have hS2 := hp2.spot
  refine hK _ _ ⟨fun _ => hS2, ?_⟩
  clear hK K
  have hf2 := hp2.free o
  have HZ := Lib.hid (And.intro hown (And.intro hk2 (And.intro hat hgl)))
  have HP2 := Lib.hid hp2
  clear hi hz0 hz1 hz2 hr1 hne hk1 hn1 hz1' hn hlt hp1 hown hgrow hat hk2 hp2
  refine anyTill_one (i := 9) (by kernel_rfl) rfl rfl (fun K hK => ?_)
  go_simp
  refine hK _ _ ⟨fun _ => hS2, ?_⟩
  clear hK K
  refine anyTill_one (i := 10) (by kernel_rfl) rfl rfl (fun K hK => ?_)
  go_simp
  refine hK _ _ ⟨fun _ => hS2, ?_⟩
  clear hK K
  refine anyTill_one (i := 11) (by kernel_rfl) rfl rfl (fun K hK => ?_)
  go_simp
  refine hK _ _ ⟨fun h => absurd rfl h, anyTill_done (by kernel_rfl) ?_ _⟩
  clear hK K
  obtain ⟨hown, hk2, hat, hgl⟩ := HZ.out
  obtain ⟨hr1, hne, hk1, hn1, hz1', hn, hlt⟩ := HP.out
  have hgp : g ≠ p := by
    rcases hat with h | h
    · exact hne g h
    · omega
  refine bodyPost_end (results_none rfl _ _ _) rfl ⟨rfl, [p, g], ⟨_, HP2.out.respot (.slice (some ⟨g, 0, none⟩) (n + 1) cap), ?_, by simpa [Value.ownBlock] using hgp, rfl, by simp; omega⟩, ⟨?_, ?_⟩⟩
  · rw [ints_push, Array.size_push, hn]
    exact hown.kept (grownBy_setCell w2 ⟨p, o, none⟩ _) (.inr (by simpa [Value.ownBlock] using hgp))
  · exact ((hk1.mono (by simp)).trans hk2).setCell (.inl (by simp)) _
  · intro k hk
    simp at hk
    rcases hk with rfl | rfl
    · exact .inl (by simp)
    · rcases hat with h | h
      · exact .inl (by simp [h])
      · exact .inr (by omega)
end Go.Proofs.YtlignamakiiokaaGreatDoor
