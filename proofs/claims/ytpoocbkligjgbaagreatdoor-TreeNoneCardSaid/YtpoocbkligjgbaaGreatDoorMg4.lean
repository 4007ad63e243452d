/-
  A pile of numbers in memory; its five methods as a heap; its first one. Copying, sorting and looking through rows of numbers; a pile of numbers behind the heap's interface. The calls of a pile of numbers. Walks over the statements' book, of numbers: lists with room behind them, in which a mark stands; are two lists alike? append of what came in.
-/
import Derived.Test.YtpoocbkligjgbaaGreatDoorMg2
import Derived.Test.YtpoocbkligjgbaaGreatDoorMg1
import Derived.Laws.OwnMore
import Derived.Deep.QuietTactic
import Derived.BigQuiet
import Derived.BigRegion
import Derived.Deep.AppendLies
import Derived.Deep.RegionLaw
import Derived.Test.YtpoocbkligjgbaaGreatDoorMg3
import Derived.Test.YtpoocbkligjgbaaGreatDoorShelf
import Derived.Sort.OwnSortedInts
import Derived.Laws.AppendOwnNone
namespace Go.Proofs.YtpoocbkligjgbaaGreatDoor
open Go.RowKit Go.Sort

def ints (a : Array Int) : List Value := a.toList.map (Value.int .i64)

/-- Where a slice stands: in cell o of a block of type t, among other cells. -/
structure Spot (o : Nat) where
  t : TypeId
  K : Value → Array Value
  get : ∀ v, (K v)[o]? = some v
  put : ∀ v u, (K v).setIfInBounds o u = K u

section
variable {w w' : World} {p o : Nat} {S : Spot o} {v : Value}
theorem Has.spot (h : Has w p S.t (S.K v)) : w.cell? ⟨p, o, none⟩ = some v := (h.cell o).trans (S.get v)
theorem Has.respot (h : Has w p S.t (S.K v)) (u : Value) : Has (w.setCell ⟨p, o, none⟩ u) p S.t (S.K u) := by
  have := h.put o u
  rwa [S.put] at this
end

/-- A pile at cell o of p: a row of numbers of its own. -/
def NumAt (p : Nat) {o : Nat} (S : Spot o) (w : World) (F : List Nat) (a : Array Int) : Prop :=
  ∃ v, Has w p S.t (S.K v) ∧ w.ownsRow 0 3 1 v a.size (ints a) ∧ (∀ g, v.ownBlock = some g → g ≠ p) ∧ F = p :: v.ownBlock.toList ∧ a.size ≤ 1000000

theorem get_of {α : Type} [Inhabited α] {a : Array α} {i : Nat} (h : i < a.size) : a.toList[i]? = some a[i]! := by simp [h]
theorem ints_at {a : Array Int} {i : Nat} (h : i < a.size) : (ints a)[i]? = some (.int .i64 a[i]!) := by
  unfold ints
  rw [List.getElem?_map, get_of h]
  rfl

theorem NumAt.open {p o : Nat} {S : Spot o} {w : World} {F : List Nat} {a : Array Int} (h : NumAt p S w F a) (h0 : 0 < a.size) :
    ∃ g cap, Has w p S.t (S.K (.slice (some ⟨g, 0, none⟩) a.size cap)) ∧ w.ownsRow 0 3 1 (.slice (some ⟨g, 0, none⟩) a.size cap) a.size (ints a) ∧ g ≠ p ∧ F = [p, g] ∧ a.size ≤ cap ∧ a.size ≤ 1000000 ∧ cap ≤ maxLen := by
  obtain ⟨v, hp, hr, hne, rfl, hs⟩ := h
  rcases hr.2 with ⟨_, h1⟩ | ⟨g, cap, cur, rfl, _, _, hc, hm, _⟩
  · omega
  · exact ⟨g, cap, hp, hr, hne g rfl, rfl, hc, hs, hm⟩

theorem NumAt.lt {p o : Nat} {S : Spot o} {w : World} {F : List Nat} {a : Array Int} (h : NumAt p S w F a) : ∀ k ∈ F, k < w.heap.size := by
  obtain ⟨v, hp, hr, hne, rfl, hs⟩ := h
  intro k hk
  rcases List.mem_cons.1 hk with rfl | hk
  · exact hp.inside
  · exact (hr.lt k (by simpa using hk)).2

theorem NumAt.kept {p o : Nat} {S : Spot o} {w w' : World} {F G : List Nat} {a : Array Int} (h : NumAt p S w F a) (hk : Kept G w w') (hd : ∀ k ∈ F, k ∉ G) : NumAt p S w' F a := by
  obtain ⟨v, hp, hr, hne, rfl, hs⟩ := h
  exact ⟨v, hp.kept hk (hd p (by simp)), row_kept hr hk (fun g hg => hd g (by simp [hg])), hne, rfl, hs⟩

theorem NumAt.drewN {p o : Nat} {S : Spot o} {w : World} {F : List Nat} {a : Array Int} (h : NumAt p S w F a) (n : Nat) : NumAt p S (w.drewN n) F a := h.kept ((Kept.refl [] w).drewN n) (by simp)

theorem nlen_any {p o : Nat} {S : Spot o} {w : World} {F : List Nat} {a : Array Int} (h : NumAt p S w F a) : Calls Tryz.prog 323 #[.pointer (some ⟨p, o, none⟩)] w fun e w' => e = .returned (.int .i64 (a.size : Nat)) ∧ w' = w := by
  obtain ⟨v, hp, hr, hne, rfl, hs⟩ := h
  have hc := hp.spot
  have hn : ∃ A c, v = .slice A a.size c := by
    rcases hr.2 with ⟨h1, h2⟩ | ⟨g, cap, cur, h1, _⟩
    · rw [h2]; exact ⟨_, _, h1⟩
    · exact ⟨_, _, h1⟩
  obtain ⟨A, c, rfl⟩ := hn
  clear hp hr hne
  generalize a.size = n at *
  go_enter Tryz.func323, Tryz.ntmps323
  go_wp2
  go_ret
  exact ⟨rfl, rfl⟩

set_option maxRecDepth 100000 in
theorem nless_any {p o : Nat} {S : Spot o} {w : World} {F : List Nat} {a : Array Int} (i j : Nat) (h : NumAt p S w F a) (hi : i < a.size) (hj : j < a.size) :
    Calls Tryz.prog 333 #[.pointer (some ⟨p, o, none⟩), .int .i64 i, .int .i64 j] w fun e w' => e = .returned (.bool (ltInt a[i]! a[j]!)) ∧ NumAt p S w' F a ∧ Kept F w w' := by
  obtain ⟨g, cap, hp, hr, hne, rfl, hcap, hs, hm⟩ := h.open (by omega)
  have hc := hp.spot
  have ci := (hr.cellAt i (by omega)).trans (ints_at hi)
  have cj := (hr.cellAt j (by omega)).trans (ints_at hj)
  have H := Lib.hid h
  generalize hx : a[i]! = x at *
  generalize hy : a[j]! = y at *
  clear h hp hr hx hy
  generalize hn : a.size = n at *
  clear hn
  have i0 : (0 : Int) ≤ (i : Int) := by omega
  have j0 : (0 : Int) ≤ (j : Int) := by omega
  have i1 : (i : Int) < (n : Int) := by omega
  have j1 : (j : Int) < (n : Int) := by omega
  unfold ltInt
  go_enter Tryz.func333, Tryz.ntmps333
  go_wp2_with fail
  go_quiet (fail)
  go_wp2
  go_ret
  exact ⟨rfl, H.out.drewN _, (Kept.refl _ _).drewN _⟩

theorem ints_swp (a : Array Int) (i j : Nat) : ((ints a).set i (.int .i64 a[j]!)).set j (.int .i64 a[i]!) = ints (swp a i j) := by
  unfold ints swp
  simp [List.map_set]

set_option maxRecDepth 100000 in
set_option maxHeartbeats 1000000 in
theorem nswap_any {p o : Nat} {S : Spot o} {w : World} {F : List Nat} {a : Array Int} (i j : Nat) (h : NumAt p S w F a) (hi : i < a.size) (hj : j < a.size) :
    Calls Tryz.prog 336 #[.pointer (some ⟨p, o, none⟩), .int .i64 i, .int .i64 j] w fun e w' => e = .returned (.tuple #[]) ∧ NumAt p S w' F (swp a i j) ∧ Kept F w w' := by
  obtain ⟨g, cap, hp, hr, hne, rfl, hcap, hs, hm⟩ := h.open (by omega)
  have hc := hp.spot
  have ci := (hr.cellAt i (by omega)).trans (ints_at hi)
  have cj := (hr.cellAt j (by omega)).trans (ints_at hj)
  have fi := hr.frozenAt i
  have fj := hr.frozenAt j
  obtain ⟨hr1, _⟩ := hr.stored i (.int .i64 a[j]!)
  obtain ⟨hr2, _⟩ := hr1.stored j (.int .i64 a[i]!)
  rw [ints_swp a i j] at hr2
  have hsz : (swp a i j).size = a.size := size_swp _ _ _
  have hfin : NumAt p S ((w.setCell ⟨g, i, none⟩ (.int .i64 a[j]!)).setCell ⟨g, j, none⟩ (.int .i64 a[i]!)) [p, g] (swp a i j) :=
    ⟨_, (hp.past (p := ⟨g, i, none⟩) (Ne.symm hne) _).past (p := ⟨g, j, none⟩) (Ne.symm hne) _, by rw [hsz]; exact hr2, by simpa [Value.ownBlock] using hne, rfl, by omega⟩
  have HF := Lib.hid hfin
  obtain ⟨u, hcj⟩ := cell?_setCell_some (w := w) (p := ⟨g, i, none⟩) (x := .int .i64 a[j]!) (q := ⟨g, j, none⟩) (v := .int .i64 a[j]!) (by go_simp)
  generalize hx : a[i]! = x at *
  generalize hy : a[j]! = y at *
  clear h hp hr hx hy hr1 hr2 hfin hsz
  generalize hn : a.size = n at *
  clear hn
  have i0 : (0 : Int) ≤ (i : Int) := by omega
  have j0 : (0 : Int) ≤ (j : Int) := by omega
  have i1 : (i : Int) < (n : Int) := by omega
  have j1 : (j : Int) < (n : Int) := by omega
  have hk : Kept [p, g] w ((w.setCell ⟨g, i, none⟩ (.int .i64 y)).setCell ⟨g, j, none⟩ (.int .i64 x)) := ((Kept.refl _ _).setCell (p := ⟨g, i, none⟩) (by simp) _).setCell (p := ⟨g, j, none⟩) (by simp) _
  have HK := Lib.hid hk
  clear hk
  go_enter Tryz.func336, Tryz.ntmps336
  go_wp2_with fail
  go_region
  all_goals (go_wp2; go_end0)
  all_goals exact ⟨rfl, HF.out.kept (Kept.refl [] _).drew (by simp), HK.out.drew⟩

theorem ints_pop (a : Array Int) (h : 0 < a.size) : ints a = ints a.pop ++ [.int .i64 a[a.size - 1]!] := by
  unfold ints
  rw [toList_pop a h]
  simp

set_option maxRecDepth 100000 in
theorem npop_any {p o : Nat} {S : Spot o} {w : World} {F : List Nat} {a : Array Int} (h : NumAt p S w F a) (h0 : 0 < a.size) :
    Calls Tryz.prog 334 #[.pointer (some ⟨p, o, none⟩)] w fun e w' => e = .returned (.iface 3 (.int .i64 a[a.size - 1]!)) ∧ NumAt p S w' F a.pop ∧ Kept F w w' := by
  obtain ⟨g, cap, hp, hr, hne, rfl, hcap, hs, hm⟩ := h.open h0
  obtain ⟨n, hn⟩ : ∃ n, a.size = n + 1 := ⟨a.size - 1, by omega⟩
  have hz : a.pop.size = n := by simp [hn]
  have cn := (hr.cellAt n (by omega)).trans (ints_at (by omega))
  have hc := hp.spot
  have hf := hp.free o
  have hr2 := hr
  rw [ints_pop a h0, hn] at hr2
  have hr3 := row_less hr2 (by simp [ints, hn])
  have hp2 := hp.respot (.slice (some ⟨g, 0, none⟩) n cap)
  have hr4 : (w.setCell ⟨p, o, none⟩ (.slice (some ⟨g, 0, none⟩) n cap)).ownsRow 0 3 1 (.slice (some ⟨g, 0, none⟩) n cap) n (ints a.pop) :=
    hr3.kept (grownBy_setCell w ⟨p, o, none⟩ _) (.inr (by simpa [Value.ownBlock] using hne))
  have hfin : NumAt p S (w.setCell ⟨p, o, none⟩ (.slice (some ⟨g, 0, none⟩) n cap)) [p, g] a.pop :=
    ⟨_, hp2, by rw [hz]; exact hr4, by simpa [Value.ownBlock] using hne, rfl, by omega⟩
  have hk : Kept [p, g] w (w.setCell ⟨p, o, none⟩ (.slice (some ⟨g, 0, none⟩) n cap)) := (Kept.refl _ _).setCell (p := ⟨p, o, none⟩) (by simp) _
  have HF := Lib.hid (And.intro hfin hk)
  rw [hn, Nat.add_sub_cancel]
  rw [hn] at hc
  clear hfin hk hr2 hr3 hr4 hp2 hp hr h
  generalize hx : a[n]! = x at *
  clear hx
  have hnc : (n : Int) ≤ cap := by omega
  have hn0 : (0 : Int) ≤ n := by omega
  have hnb : n ≤ 1000000 := by omega
  clear hn hz h0 hcap hs
  unfold maxLen at hm
  go_enter Tryz.func334, Tryz.ntmps334
  go_wp2_with fail
  go_ret
  exact ⟨rfl, HF.out.1, HF.out.2⟩

theorem ints_push (a : Array Int) (x : Int) : ints (a.push x) = ints a ++ [.int .i64 x] := by simp [ints]
theorem Tryz.assertInt (x : Int) (w : World) : (Instr.typeAssert (.iface 3 (.int .i64 x)) 20 3 false).run Tryz.prog w = .ok (.int .i64 x) w := by kernel_rfl

set_option maxRecDepth 100000 in
set_option maxHeartbeats 1000000 in
theorem npush_any {p o : Nat} {S : Spot o} {w : World} {F : List Nat} {a : Array Int} (x : Int) (h : NumAt p S w F a) (h1 : a.size < 1000000) :
    Calls Tryz.prog 335 #[.pointer (some ⟨p, o, none⟩), .iface 3 (.int .i64 x)] w fun e w' => e = .returned (.tuple #[]) ∧ ∃ F', NumAt p S w' F' (a.push x) ∧ Goes F w F' w' := by
  obtain ⟨v, hp, hr, hne, rfl, hs⟩ := h
  obtain ⟨i0, hi, hz0, hz1, hz2⟩ := info_parts Tryz.infoInt
  have hTA := Tryz.assertInt x
  obtain ⟨n, hn⟩ : ∃ n, a.size = n := ⟨_, rfl⟩
  rw [hn] at hr hs h1
  obtain ⟨A, cc, rfl⟩ := row_form hr
  have hc := hp.spot
  have hpl := hp.inside
  have hr1 := (World.ownsRow.alloc hr (.cells #[.int .i64 x] 3)).drew
  have hk1 : Kept [] w (w.alloc (.cells #[.int .i64 x] 3)).drew := ((Kept.refl _ _).alloc _).drew
  have hp1 := hp.kept hk1 (by simp)
  have hn1 : (w.alloc (.cells #[.int .i64 x] 3)).drew.cell? ⟨w.heap.size, 0, none⟩ = some (.int .i64 x) := (Has.made w 3 #[.int .i64 x]).cell 0
  have hz1' : (w.alloc (.cells #[.int .i64 x] 3)).drew.heap.size = w.heap.size + 1 := by show (w.alloc _).heap.size = _; simp
  have HP := Lib.hid (And.intro hr1 (And.intro hne (And.intro hk1 (And.intro hn1 (And.intro hz1' (And.intro hn h1))))))
  have HI := Lib.hid (And.intro hi (And.intro hz0 (And.intro hz1 hz2)))
  have hS : w.drew.cell? ⟨p, o, none⟩ = some (.slice A n cc) := hc
  have hS1 : (w.alloc (.cells #[.int .i64 x] 3)).drew.cell? ⟨p, o, none⟩ = some (.slice A n cc) := hp1.spot
  clear hr hs hi hz0 hz1 hz2 hk1 hr1 hc hn1 hz1' hn
  have HQ := Lib.hid hp1
  clear hp hp1 hne h1
  go_enter Tryz.func335, Tryz.ntmps335
  refine wp_region_till (fun w' => w'.cell? ⟨p, o, none⟩ = some (.slice A n cc)) 11 (by kernel_rfl) ?_
  refine anyTill_takeAt 4 (i := 0) (v := .pointer (some ⟨p, o, none⟩)) rfl rfl (by kernel_rfl) (by kernel_rfl) (by kernel_rfl) (by kernel_rfl) (fun _ _ _ h => h) (Or.inl ⟨by rfl, fun w' hw' => by obtain q1 := hw'; go_simp⟩) hS ?_
  simp only [List.setIfInBounds_toArray, List.set_cons_zero, List.set_cons_succ]
  refine anyTill_takeAt 5 (i := 1) (v := .pointer (some ⟨p, o, none⟩)) rfl rfl (by kernel_rfl) (by kernel_rfl) (by kernel_rfl) (by kernel_rfl) (fun _ _ _ h => h) (Or.inl ⟨by rfl, fun w' hw' => by obtain q1 := hw'; go_simp⟩) hS ?_
  simp only [List.setIfInBounds_toArray, List.set_cons_zero, List.set_cons_succ]
  refine anyTill_takeAt 6 (i := 2) (v := .pointer (some ⟨p, o, none⟩)) rfl rfl (by kernel_rfl) (by kernel_rfl) (by kernel_rfl) (by kernel_rfl) (fun _ _ _ h => h) (Or.inl ⟨by rfl, fun w' hw' => by obtain q1 := hw'; go_simp⟩) hS ?_
  simp only [List.setIfInBounds_toArray, List.set_cons_zero, List.set_cons_succ]
  refine anyTill_takeAt 7 (i := 3) (v := .pointer (some ⟨p, o, none⟩)) rfl rfl (by kernel_rfl) (by kernel_rfl) (by kernel_rfl) (by kernel_rfl) (fun _ _ _ h => h) (Or.inl ⟨by rfl, fun w' hw' => by obtain q1 := hw'; go_simp⟩) hS ?_
  simp only [List.setIfInBounds_toArray, List.set_cons_zero, List.set_cons_succ]
  refine anyTill_takeAt 8 (i := 4) (v := .slice A n cc) rfl rfl (by kernel_rfl) (by kernel_rfl) (by kernel_rfl) (by kernel_rfl) (fun _ _ _ h => h) (Or.inl ⟨by rfl, fun w' hw' => by obtain q1 := hw'; go_simp⟩) hS ?_
  simp only [List.setIfInBounds_toArray, List.set_cons_zero, List.set_cons_succ]
  refine anyTill_takeAt 9 (i := 5) (v := .iface 3 (.int .i64 x)) rfl rfl (by kernel_rfl) (by kernel_rfl) (by kernel_rfl) (by kernel_rfl) (fun _ _ _ h => h) (Or.inl ⟨by rfl, fun w' hw' => by obtain q1 := hw'; go_simp⟩) hS ?_
  simp only [List.setIfInBounds_toArray, List.set_cons_zero, List.set_cons_succ]
  refine anyTill_takeAt 10 (i := 6) (v := .int .i64 x) rfl rfl (by kernel_rfl) (by kernel_rfl) (by kernel_rfl) (by kernel_rfl) (fun _ _ _ h => h) (Or.inl ⟨by rfl, fun w' hw' => by obtain q1 := hw'; go_simp⟩) hS ?_
  simp only [List.setIfInBounds_toArray, List.set_cons_zero, List.set_cons_succ]
  refine anyTill_one (i := 7) (by kernel_rfl) rfl rfl (fun K hK => ?_)
  go_simp
  refine hK _ _ ⟨fun _ => hS1, ?_⟩
  clear hK K hTA hS hS1
  obtain ⟨hi, hz0, hz1, hz2⟩ := HI.out
  obtain ⟨hr1, hne, hk1, hn1, hz1', hn, hlt⟩ := HP.out
  have hp1 := HQ.out
  generalize (w.alloc (.cells #[.int .i64 x] 3)).drew = W at *
  refine anyTill_one (i := 8) (by kernel_rfl) rfl rfl (fun K hK => ?_)
  refine wp_append_lies _ (.tmp 8) (.tmp 11) 49 rfl 0 3 i0 (.int .i64 0) 1 8 Tryz.underlying49 hi hz0 hz1 hz2 rfl (by decide) (.slice A n cc) n (ints a) (by rfl) hr1 ⟨w.heap.size, 0, none⟩ 1 1 [.int .i64 x] (by rfl) rfl
    (by intro j u hu; rcases j with _ | j <;> simp at hu; subst hu; exact hn1) (by intro u hu; simp at hu; subst hu; rfl) (by omega) (by unfold maxLen; omega) (by omega) (by omega) _ rfl ?_
  intro g cap w2 hown hgrow hat hgl
  have hk2 : Kept (p :: (Value.slice A n cc).ownBlock.toList) W w2 := Kept.of_grown hgrow (fun k hk => by simp [hk])
  have hp2 : Has w2 p S.t (S.K (.slice A n cc)) := hp1.grown hgrow (fun e => hne p e.symm rfl)
  have hS2 := hp2.spot
  refine hK _ _ ⟨fun _ => hS2, ?_⟩
  clear hK K
  have hf2 := hp2.free o
  have HZ := Lib.hid (And.intro hown (And.intro hk2 (And.intro hat hgl)))
  have HP2 := Lib.hid hp2
  clear hi hz0 hz1 hz2 hr1 hne hk1 hn1 hz1' hn hlt hp1 hown hgrow hat hk2 hp2
  refine anyTill_one (i := 9) (by kernel_rfl) rfl rfl (fun K hK => ?_)
  go_simp
  refine hK _ _ ⟨fun _ => hS2, ?_⟩
  clear hK K
  refine anyTill_one (i := 10) (by kernel_rfl) rfl rfl (fun K hK => ?_)
  go_simp
  refine hK _ _ ⟨fun _ => hS2, ?_⟩
  clear hK K
  refine anyTill_one (i := 11) (by kernel_rfl) rfl rfl (fun K hK => ?_)
  go_simp
  refine hK _ _ ⟨fun h => absurd rfl h, anyTill_done (by kernel_rfl) ?_ _⟩
  clear hK K
  obtain ⟨hown, hk2, hat, hgl⟩ := HZ.out
  obtain ⟨hr1, hne, hk1, hn1, hz1', hn, hlt⟩ := HP.out
  have hgp : g ≠ p := by
    rcases hat with h | h
    · exact hne g h
    · omega
  refine bodyPost_end (results_none rfl _ _ _) rfl ⟨rfl, [p, g], ⟨_, HP2.out.respot (.slice (some ⟨g, 0, none⟩) (n + 1) cap), ?_, by simpa [Value.ownBlock] using hgp, rfl, by simp; omega⟩, ⟨?_, ?_⟩⟩
  · rw [ints_push, Array.size_push, hn]
    exact hown.kept (grownBy_setCell w2 ⟨p, o, none⟩ _) (.inr (by simpa [Value.ownBlock] using hgp))
  · exact ((hk1.mono (by simp)).trans hk2).setCell (.inl (by simp)) _
  · intro k hk
    simp at hk
    rcases hk with rfl | rfl
    · exact .inl (by simp)
    · rcases hat with h | h
      · exact .inl (by simp [h])
      · exact .inr (by omega)
end Go.Proofs.YtpoocbkligjgbaaGreatDoor

namespace Go.Proofs.YtpoocbkligjgbaaGreatDoor
open Go.RowKit Go.Sort

/-- v is a slice that reads as the values xs; its block, if it has one, is none of F. -/
def ReadsO (F : List Nat) (w : World) (v : Value) (xs : List Value) : Prop :=
  ∃ (A : Option Addr) (c : Nat), v = .slice A xs.length c ∧ (0 < xs.length → ∃ b off, A = some ⟨b, off, none⟩ ∧ b < w.heap.size ∧ b ∉ F ∧ ∀ (j : Nat) (u : Value), xs[j]? = some u → w.cell? ⟨b, off + j, none⟩ = some u)

theorem ReadsO.kept {F : List Nat} {w w' : World} {v : Value} {xs : List Value} (h : ReadsO F w v xs) (hk : Kept F w w') : ReadsO F w' v xs := by
  obtain ⟨A, c, rfl, h⟩ := h
  refine ⟨A, c, rfl, fun hn => ?_⟩
  obtain ⟨b, off, rfl, hlt, hF, hc⟩ := h hn
  exact ⟨b, off, rfl, Nat.lt_of_lt_of_le hlt hk.size, hF, fun j u hu => (hk.cell (p := ⟨b, off + j, none⟩) hlt hF).trans (hc j u hu)⟩
theorem ReadsO.goes {F F' : List Nat} {w w' : World} {v : Value} {xs : List Value} (h : ReadsO F w v xs) (hk : Goes F w F' w') : ReadsO F' w' v xs := by
  obtain ⟨A, c, rfl, h⟩ := h
  refine ⟨A, c, rfl, fun hn => ?_⟩
  obtain ⟨b, off, rfl, hlt, hF, hc⟩ := h hn
  exact ⟨b, off, rfl, Nat.lt_of_lt_of_le hlt hk.1.size, fun hb => (hk.2 b hb).elim hF (fun h => by omega), fun j u hu => (hk.1.cell (p := ⟨b, off + j, none⟩) hlt hF).trans (hc j u hu)⟩
theorem ReadsO.mono {F G : List Nat} {w : World} {v : Value} {xs : List Value} (h : ReadsO F w v xs) (hs : ∀ k ∈ G, k ∈ F ∨ w.heap.size ≤ k) : ReadsO G w v xs := by
  obtain ⟨A, c, rfl, h⟩ := h
  refine ⟨A, c, rfl, fun hn => ?_⟩
  obtain ⟨b, off, rfl, hlt, hF, hc⟩ := h hn
  exact ⟨b, off, rfl, hlt, fun hb => (hs b hb).elim hF (fun h => by omega), hc⟩
/-- What came in is none of what is made. -/
theorem Reads1.toO {B : Nat} {F : List Nat} {w : World} {v : Value} {xs : List Value} (h : Reads1 w B v xs) (hB : B ≤ w.heap.size) (hF : ∀ k ∈ F, B ≤ k) : ReadsO F w v xs := by
  obtain ⟨A, c, rfl, h⟩ := h
  refine ⟨A, c, rfl, fun hn => ?_⟩
  obtain ⟨b, off, rfl, hlt, hc⟩ := h hn
  exact ⟨b, off, rfl, by omega, fun hb => by have := hF b hb; omega, hc⟩
/-- A row of one's own. -/
theorem row_readsO {base : Nat} {e : TypeId} {F : List Nat} {w : World} {v : Value} {n : Nat} {xs : List Value} (h : w.ownsRow base e 1 v n xs) (hF : ∀ g, v.ownBlock = some g → g ∉ F) : ReadsO F w v xs := by
  have hl : xs.length = n := by simpa using h.1
  rcases h.2 with ⟨rfl, rfl⟩ | ⟨g, cap, cur, rfl, _, hg, _⟩
  · exact ⟨none, 0, by rw [hl], fun h0 => by omega⟩
  · refine ⟨some ⟨g, 0, none⟩, cap, by rw [hl], fun _ => ⟨g, 0, rfl, lt_of_block hg, hF g rfl, fun j u hu => ?_⟩⟩
    have hj : j < n * 1 := by have := (List.getElem?_eq_some_iff.1 hu).1; omega
    rw [Nat.zero_add, h.cellAt j hj, hu]



theorem clone_any {F : List Nat} {w : World} {v : Value} {l : List Int} (h : ReadsO F w v (l.map (.int .i64))) (hl : l.length ≤ 1000000) :
    Calls Tryz.prog 148 #[v] w fun e w' => ∃ v', e = .returned v' ∧ w'.ownsRow w.heap.size 3 1 v' l.length (l.map (.int .i64)) ∧ Below w.heap.size w w' := by
  obtain ⟨A, c, rfl, h⟩ := h
  rcases Nat.eq_zero_or_pos l.length with h0 | h0
  · obtain rfl := List.eq_nil_of_length_eq_zero h0
    rcases A with _ | a
    · exact (Tryz.slices_Clone_int_nil 0 c w).mono fun e w' he => by obtain ⟨rfl, rfl⟩ := he; exact ⟨_, rfl, World.ownsRow_nil _ _ _ _, Below.refl _ _⟩
    · exact (Tryz.slices_Clone_int_zero a c w).mono fun e w' he => by obtain ⟨v', rfl, ho, _, hb⟩ := he; exact ⟨_, rfl, ho, hb⟩
  · obtain ⟨b, off, rfl, _, _, hc⟩ := h (by simpa using h0)
    have hh := Tryz.slices_Clone_int b off l.length c l w (Nat.le_refl _) (by omega) (fun j hj => by
      refine hc j _ ?_
      rw [List.getElem?_map, List.getElem?_eq_getElem hj, List.getD, List.getElem?_eq_getElem hj]
      rfl)
    rw [List.take_length] at hh
    rw [List.length_map]
    exact hh.mono fun e w' he => by obtain ⟨v', rfl, ho, _, hb⟩ := he; exact ⟨_, rfl, ho, hb⟩

def leInt (x y : Int) : Bool := decide (x ≤ y)

theorem sort_own {w : World} {base : Nat} {v : Value} {l : List Int} (h : w.ownsRow base 3 1 v l.length (l.map (.int .i64))) (hl : l.length ≤ 1000000) :
    Calls Tryz.prog 106 #[v] w fun e w' => e = .returned (.tuple #[]) ∧ w'.ownsRow base 3 1 v l.length ((l.mergeSort leInt).map (.int .i64)) ∧ w.grownBy w' v.ownBlock := by
  rcases Nat.eq_zero_or_pos l.length with h0 | h0
  · obtain rfl := List.eq_nil_of_length_eq_zero h0
    obtain ⟨A, c, rfl⟩ := row_form h
    refine (Tryz.slices_Sort_int_none A c w).mono fun e w' he => ?_
    obtain ⟨rfl, rfl⟩ := he
    exact ⟨rfl, by simpa using h, rfl, rfl, rfl, Nat.le_refl _, fun _ _ _ => rfl⟩
  · rcases h.2 with ⟨_, h1⟩ | ⟨g, cap, cur, rfl, hb, hg, hnc, hcm, hcs, htake⟩
    · omega
    · have hH := holds_of_blockI (ss := l) hg (by simpa using htake)
      refine (Tryz.slices_Sort_int g 0 cap l w hH (lt_of_block hg) (by omega)).mono fun e w' he => ?_
      obtain ⟨rfl, n, os, rfl⟩ := he
      refine ⟨rfl, ?_, grownBy_sortedI _⟩
      exact ownsRow_sortedI (ss := l) (List.length_mergeSort _) hb hg hnc hcm (by omega)

theorem leInt_total : ∀ a b : Int, (leInt a b || leInt b a) = true := by
  intro a b
  unfold leInt
  simp
  omega
theorem leInt_trans : ∀ a b c : Int, leInt a b = true → leInt b c = true → leInt a c = true := by
  intro a b c
  unfold leInt
  simp
  omega
theorem srt_le (l : List Int) : (l.mergeSort leInt).Pairwise fun a b => a ≤ b := by
  have := List.pairwise_mergeSort leInt_trans leInt_total l
  exact this.imp (by intro a b h; simpa [leInt] using h)
/-- What is sorted is the same of all that hold the same. -/
theorem sort_perm {l m : List Int} (h : l.Perm m) : l.mergeSort leInt = m.mergeSort leInt := by
  have h1 := (srt_le l)
  have h2 := (srt_le m)
  exact List.Perm.eq_of_pairwise (le := fun a b => a ≤ b) (fun a b _ _ h1 h2 => Int.le_antisymm h1 h2) h1 h2 (((List.mergeSort_perm l leInt).trans h).trans (List.mergeSort_perm m leInt).symm)

theorem numHO (p : Nat) {o : Nat} (S : Spot o) : HO 193 (.pointer (some ⟨p, o, none⟩)) 323 333 336 335 334 ltInt (fun x => .iface 3 (.int .i64 x)) (NumAt p S) where
  mLen := fun w => by kernel_rfl
  mLess := fun w => by kernel_rfl
  mSwap := fun w => by kernel_rfl
  mPush := fun w => by kernel_rfl
  mPop := fun w => by kernel_rfl
  eLen := fun _ _ => by kernel_rfl
  eLess := fun _ _ => by kernel_rfl
  eSwap := fun _ _ => by kernel_rfl
  ePush := fun _ _ => by kernel_rfl
  ePop := fun _ _ => by kernel_rfl
  swo := swo_ltInt
  few := fun ⟨_, _, _, _, _, h⟩ => h
  len := fun h => nlen_any h
  less := fun i j h hi hj => nless_any i j h hi hj
  swap := fun i j h hi hj => nswap_any i j h hi hj
  push := fun x h hs => npush_any x h hs
  pop := fun h h0 => npop_any h h0
end Go.Proofs.YtpoocbkligjgbaaGreatDoor

namespace Go.Proofs.YtpoocbkligjgbaaGreatDoor
open Go.RowKit Go.Sort

theorem below_of_grownBy' {a b : World} {row : Option Nat} {B : Nat} (h : a.grownBy b row) (hB : B ≤ a.heap.size) (hg : ∀ g, row = some g → B ≤ g) : Below B a b :=
  ⟨h.os, h.tape, h.output, h.size, fun k hk => h.block k (by omega) (fun e => by have := hg k e.symm; omega)⟩

/-- A pile at p that holds what stands in l. -/
def PileIs (p : Nat) {o : Nat} (S : Spot o) (w : World) (F : List Nat) (l : List Int) : Prop := HeapOf ltInt (NumAt p S) F l w

theorem PileIs.kept {p o : Nat} {S : Spot o} {w w' : World} {F G : List Nat} {l : List Int} (h : PileIs p S w F l) (hk : Kept G w w') (hd : ∀ k ∈ F, k ∉ G) : PileIs p S w' F l := by
  obtain ⟨a, ha, h1, h2⟩ := h
  exact ⟨a, ha.kept hk hd, h1, h2⟩
theorem PileIs.below {p o : Nat} {S : Spot o} {w w' : World} {F : List Nat} {l : List Int} (h : PileIs p S w F l) (hb : Below w.heap.size w w') : PileIs p S w' F l := h.kept (G := []) (Kept.of_below hb) (by simp)
theorem PileIs.lt {p o : Nat} {S : Spot o} {w : World} {F : List Nat} {l : List Int} (h : PileIs p S w F l) : ∀ k ∈ F, k < w.heap.size := by
  obtain ⟨a, ha, _⟩ := h
  exact ha.lt
theorem PileIs.perm {p o : Nat} {S : Spot o} {w : World} {F : List Nat} {l m : List Int} (h : PileIs p S w F l) (hp : l.Perm m) : PileIs p S w F m := by
  obtain ⟨a, ha, h1, h2⟩ := h
  exact ⟨a, ha, h1, h2.trans hp⟩
theorem PileIs.few {p o : Nat} {S : Spot o} {w : World} {F : List Nat} {l : List Int} (h : PileIs p S w F l) : l.length ≤ 1000000 := by
  obtain ⟨a, ⟨_, _, _, _, _, hs⟩, h1, h2⟩ := h
  have := h2.length_eq
  simp at this
  omega

theorem ltInt_iff {x y : Int} : ltInt x y = false ↔ y ≤ x := by
  unfold ltInt
  simp

/-- x is one of the least of x :: s. -/
theorem pile_first {a : Array Int} {x : Int} {s : List Int} (hh : HeapFrom ltInt a a.size 0) (hp : a.toList.Perm (x :: s)) (hm : ∀ y ∈ s, x ≤ y) : 0 < a.size ∧ a[0]! = x := by
  have hl : a.size = s.length + 1 := by simpa using hp.length_eq
  have h0 : 0 < a.size := by omega
  refine ⟨h0, ?_⟩
  have hin : a[0]! ∈ a.toList := by
    have : a[0]! = a[0] := by simp [h0]
    rw [this]; simp
  have hle : x ≤ a[0]! := by
    rcases List.mem_cons.1 (hp.mem_iff.1 hin) with h | h
    · omega
    · exact hm _ h
  have hx : x ∈ a.toList := hp.mem_iff.2 (by simp)
  obtain ⟨k, hk, rfl⟩ := List.mem_iff_getElem.1 hx
  have hk' : k < a.size := by simpa using hk
  have e : a.toList[k] = a[k]! := by simp [hk']
  have := ltInt_iff.1 (hh.least swo_ltInt k hk')
  omega


set_option maxRecDepth 100000 in
theorem put_any {p o : Nat} {S : Spot o} {w : World} {F : List Nat} {l xs : List Int} {v : Value} (h : PileIs p S w F l) (hv : ReadsO F w v (xs.map (.int .i64))) (hl : xs.length + l.length ≤ 1000000) :
    Calls Tryz.prog 59 #[.pointer (some ⟨p, o, none⟩), v] w fun e w' => e = .returned (.tuple #[]) ∧ ∃ F', PileIs p S w' F' (xs ++ l) ∧ Goes F w F' w' := by
  obtain ⟨A, c, rfl, hr⟩ := hv
  rw [List.length_map] at *
  obtain ⟨n, hn⟩ : ∃ n, xs.length = n := ⟨_, rfl⟩
  have HR := Lib.hid (show ReadsO F w (.slice A n c) (xs.map (.int .i64)) from ⟨A, c, by rw [List.length_map, hn], by rw [List.length_map]; exact hr⟩)
  have HN := Lib.hid (And.intro hn hl)
  have H := Lib.hid h
  rw [hn]
  have hnb : n ≤ 1000000 := by omega
  clear h hr hl hn
  go_enter Tryz.func59, Tryz.ntmps59
  go_wp2_with fail
  go_loopg [10] n (fun g i wr => ∃ (k : Nat), i = .int .i64 k ∧ k + g = n ∧ ∃ G, PileIs p S wr G (xs.take k ++ l) ∧ Goes F w G wr)
  case atStart => exact ⟨0, rfl, by omega, F, by simpa using H.out, Goes.refl _ _⟩
  case round =>
    obtain ⟨k, rfl, hkg, G, hp, hgo⟩ := hrel
    by_cases hlt : k < n
    · have hlt' : k < xs.length := by rw [HN.out.1]; exact hlt
      have hro := HR.out.goes hgo
      obtain ⟨A', c', hA, hro⟩ := hro
      obtain ⟨b, off, hAb, hbl, hbG, hcell⟩ := hro (by rw [List.length_map]; omega)
      simp only [Value.slice.injEq] at hA
      obtain ⟨rfl, hA2, rfl⟩ := hA
      subst hAb
      have hck := hcell k (.int .i64 xs[k]) (by simp [hlt'])
      obtain ⟨a, ha, hh, hpm⟩ := hp
      have hsz : a.size < 1000000 := by
        have h1 := hpm.length_eq
        have h2 := HN.out.2
        simp at h1
        omega
      have hpu := hpush_at (numHO p S) xs[k] ha hh hsz
      have HP := Lib.hid (And.intro hgo hpm)
      have e1 : (xs.take (k + 1)) = xs.take k ++ [xs[k]] := by rw [List.take_succ_eq_append_getElem hlt']
      have HE := Lib.hid e1
      generalize hx : xs[k] = x at *
      have k0 : (0 : Int) ≤ k := by omega
      have k1 : (k : Int) < n := by omega
      clear hgo hpm e1 hcell ha hh hbl hbG hA2 hro hx
      go_wp2_with fail
      refine hpu.mono ?_
      rintro e w2 ⟨rfl, G', hp2, hg2⟩
      have H2 := Lib.hid (And.intro hp2 hg2)
      clear hp2 hg2 hpu
      go_wp2
      go_roundg (n - (k + 1))
      case measure => omega
      case rel =>
        obtain ⟨hgo, hpm⟩ := HP.out
        refine ⟨k + 1, by go_num, by omega, G', PileIs.perm H2.out.1 ?_, hgo.trans H2.out.2⟩
        rw [HE.out, List.append_assoc]
        refine (hpm.cons x).trans ?_
        exact (List.perm_middle (l₁ := xs.take k) (a := x) (l₂ := l)).symm
    · obtain rfl : k = n := by omega
      have HP := Lib.hid (And.intro hp hgo)
      clear hp hgo
      go_wp2_with fail
      go_end0
      refine ⟨rfl, G, ?_, HP.out.2⟩
      have h1 := HP.out.1
      rwa [List.take_of_length_le (by rw [HN.out.1]; exact Nat.le_refl _)] at h1

set_option maxRecDepth 100000 in
theorem nfirst_some {p o : Nat} {S : Spot o} {w : World} {F : List Nat} {a : Array Int} (h : NumAt p S w F a) (h0 : 0 < a.size) :
    Calls Tryz.prog 100 #[.pointer (some ⟨p, o, none⟩)] w fun e w' => e = .returned (.tuple #[.int .i64 a[0]!, .bool true]) ∧ w' = w := by
  obtain ⟨g, cap, hp, hr, hne, rfl, hcap, hs, hm⟩ := h.open h0
  have hc := hp.spot
  have c0 := (hr.cellAt 0 (by omega)).trans (ints_at (by omega))
  generalize a[0]! = x at *
  generalize a.size = n at *
  have hz : ((n : Int) == 0) = false := by simp; omega
  have hb : decide ((0 : Int) < (n : Int)) = true := by simp; omega
  clear h hp hr
  go_enter Tryz.func100, Tryz.ntmps100
  go_wp2
  go_ret2
  exact ⟨rfl, rfl⟩

theorem nfirst_none {p o : Nat} {S : Spot o} {w : World} {F : List Nat} {a : Array Int} (h : NumAt p S w F a) (h0 : a.size = 0) :
    Calls Tryz.prog 100 #[.pointer (some ⟨p, o, none⟩)] w fun e w' => e = .returned (.tuple #[.int .i64 0, .bool false]) ∧ w' = w := by
  obtain ⟨v, hp, hr, hne, rfl, hs⟩ := h
  rw [h0] at hr
  obtain ⟨A, c, rfl⟩ := row_form hr
  have hc := hp.spot
  clear hp hr h0
  go_enter Tryz.func100, Tryz.ntmps100
  go_wp2
  go_ret2
  exact ⟨rfl, rfl⟩

theorem first_some {p o : Nat} {S : Spot o} {w : World} {F : List Nat} {l : List Int} {x : Int} {s : List Int} (h : PileIs p S w F l) (hp : l.Perm (x :: s)) (hm : ∀ y ∈ s, x ≤ y) :
    Calls Tryz.prog 57 #[.pointer (some ⟨p, o, none⟩)] w fun e w' => e = .returned (.tuple #[.int .i64 x, .bool true]) ∧ w' = w := by
  obtain ⟨a, ha, hh, hpm⟩ := h
  obtain ⟨h0, hx⟩ := pile_first hh (hpm.trans hp) hm
  have hf := nfirst_some ha h0
  rw [hx] at hf
  clear ha hh hpm hx hp hm h0
  go_enter Tryz.func57, Tryz.ntmps57
  go_wp2_with fail
  refine hf.mono ?_
  rintro e w' ⟨rfl, rfl⟩
  go_wp2_with fail
  go_ret2
  exact ⟨rfl, rfl⟩

theorem first_none {p o : Nat} {S : Spot o} {w : World} {F : List Nat} (h : PileIs p S w F []) :
    Calls Tryz.prog 57 #[.pointer (some ⟨p, o, none⟩)] w fun e w' => e = .returned (.tuple #[.int .i64 0, .bool false]) ∧ w' = w := by
  obtain ⟨a, ha, hh, hpm⟩ := h
  have hf := nfirst_none ha (by simpa using hpm.length_eq)
  clear ha hh hpm
  go_enter Tryz.func57, Tryz.ntmps57
  go_wp2_with fail
  refine hf.mono ?_
  rintro e w' ⟨rfl, rfl⟩
  go_wp2_with fail
  go_ret2
  exact ⟨rfl, rfl⟩

set_option maxRecDepth 100000 in
theorem take_some {p o : Nat} {S : Spot o} {w : World} {F : List Nat} {l : List Int} {x : Int} {s : List Int} (h : PileIs p S w F l) (hp : l.Perm (x :: s)) (hm : ∀ y ∈ s, x ≤ y) :
    Calls Tryz.prog 120 #[.pointer (some ⟨p, o, none⟩)] w fun e w' => e = .returned (.tuple #[.int .i64 x, .bool true]) ∧ PileIs p S w' F s ∧ Kept F w w' := by
  have hf := first_some h hp hm
  obtain ⟨a, ha, hh, hpm⟩ := h
  obtain ⟨h0, hx⟩ := pile_first hh (hpm.trans hp) hm
  have hpo := hpop_at (numHO p S) s ha hh h0 (by rw [hx]; exact hpm.trans hp)
  clear ha hh hpm hx hp hm h0
  go_enter Tryz.func120, Tryz.ntmps120
  go_wp2_with fail
  refine hf.mono ?_
  rintro e w' ⟨rfl, rfl⟩
  clear hf
  go_wp2_with fail
  refine hpo.mono ?_
  rintro e w1 ⟨rfl, hp, hk⟩
  have H := Lib.hid (And.intro hp hk)
  clear hp hk hpo
  go_wp2_with fail
  go_ret2
  exact ⟨rfl, H.out.1, H.out.2⟩

set_option maxRecDepth 100000 in
theorem take_none {p o : Nat} {S : Spot o} {w : World} {F : List Nat} (h : PileIs p S w F []) :
    Calls Tryz.prog 120 #[.pointer (some ⟨p, o, none⟩)] w fun e w' => e = .returned (.tuple #[.int .i64 0, .bool false]) ∧ w' = w := by
  have hf := first_none h
  clear h
  go_enter Tryz.func120, Tryz.ntmps120
  go_wp2_with fail
  refine hf.mono ?_
  rintro e w' ⟨rfl, rfl⟩
  clear hf
  go_wp2_with fail
  go_ret2
  exact ⟨rfl, rfl⟩


set_option maxRecDepth 100000 in
theorem list_any {p o : Nat} {S : Spot o} {w : World} {F : List Nat} {l : List Int} (h : PileIs p S w F l) :
    Calls Tryz.prog 104 #[.pointer (some ⟨p, o, none⟩)] w fun e w' => ∃ v', e = .returned v' ∧ w'.ownsRow w.heap.size 3 1 v' l.length ((l.mergeSort leInt).map (.int .i64)) ∧ Below w.heap.size w w' := by
  have hfew := h.few
  obtain ⟨a, ha, hh, hpm⟩ := h
  obtain ⟨v, hp, hr, hne, rfl, hs⟩ := ha
  have hro : ReadsO [] w v (a.toList.map (.int .i64)) := row_readsO hr (fun g _ => by simp)
  have hcl := clone_any hro (by simpa using hs)
  have hc := hp.spot
  obtain ⟨A, c, rfl⟩ := row_form hr
  have hz : a.toList.length = l.length := hpm.length_eq
  have HP := Lib.hid (And.intro hpm (And.intro hz hfew))
  clear hp hr hne hs hh hpm hro hz hfew
  generalize a.size = n at *
  go_enter Tryz.func104, Tryz.ntmps104
  go_wp2_with fail
  refine hcl.mono ?_
  rintro e w1 ⟨v', rfl, ho, hb⟩
  obtain ⟨A', c', rfl⟩ := row_form ho
  have hso := sort_own ho (by have := HP.out; omega)
  have HB := Lib.hid (And.intro ho hb)
  generalize hm : a.toList.length = m at *
  clear ho hb hcl hc
  go_wp2_with fail
  refine hso.mono ?_
  rintro e w2 ⟨rfl, ho2, hg2⟩
  have H2 := Lib.hid (And.intro ho2 hg2)
  clear ho2 hg2 hso
  go_wp2_with fail
  go_ret
  obtain ⟨hpm, hz, hfew⟩ := HP.out
  obtain ⟨ho, hb⟩ := HB.out
  obtain ⟨ho2, hg2⟩ := H2.out
  refine ⟨_, rfl, ?_, hb.trans ?_⟩
  · rw [← hz, ← sort_perm hpm]
    exact ho2
  · exact below_of_grownBy' hg2 hb.size (fun g hg => (ho.lt g hg).1)


end Go.Proofs.YtpoocbkligjgbaaGreatDoor

namespace Go.Proofs.YtpoocbkligjgbaaGreatDoor
open Go.RowKit


/-- v is a list of the values vals with room behind them, and there the mark. -/
def Lent (w : World) (base : Nat) (vals : List Value) (mark v : Value) : Prop :=
  ∃ g cap, v = .slice (some ⟨g, 0, none⟩) vals.length cap ∧ base ≤ g ∧ g < w.heap.size ∧ vals.length + 1 ≤ cap ∧ cap ≤ maxLen ∧ ∀ j u, (vals ++ [mark])[j]? = some u → w.cell? ⟨g, j, none⟩ = some u

theorem Lent.below {w w' : World} {base B : Nat} {vals : List Value} {mark v : Value} (h : Lent w base vals mark v) (hb : Below B w w') (hB : w.heap.size ≤ B) : Lent w' base vals mark v := by
  obtain ⟨g, cap, rfl, h1, h2, h3, h4, h5⟩ := h
  exact ⟨g, cap, rfl, h1, Nat.lt_of_lt_of_le h2 hb.size, h3, h4, fun j u hu => (hb.cell (p := ⟨g, j, none⟩) (Nat.lt_of_lt_of_le h2 hB)).trans (h5 j u hu)⟩
theorem Lent.reads {w : World} {base : Nat} {vals : List Value} {mark v : Value} (h : Lent w base vals mark v) : Reads1 w w.heap.size v vals := by
  obtain ⟨g, cap, rfl, h1, h2, h3, h4, h5⟩ := h
  refine ⟨_, _, rfl, fun _ => ⟨g, 0, rfl, h2, fun j u hu => ?_⟩⟩
  rw [Nat.zero_add]
  refine h5 j u ?_
  rw [List.getElem?_append_left]
  · exact hu
  · exact (List.getElem?_eq_some_iff.1 hu).1

section
variable {ops : Array Oper} {rest : List Oper} {o : Oper} {a : Act} {Q : Exit → Act → World → Prop}

end


section
variable {ops : Array Oper} {rest : List Oper} {o : Oper} {a : Act} {Q : Exit → Act → World → Prop}
end

theorem int_one {l : List Int} : ∀ u ∈ l.map (Value.int .i64), u.oneCell' = true := by
  intro u hu
  obtain ⟨x, _, rfl⟩ := List.mem_map.1 hu
  rfl


end Go.Proofs.YtpoocbkligjgbaaGreatDoor
