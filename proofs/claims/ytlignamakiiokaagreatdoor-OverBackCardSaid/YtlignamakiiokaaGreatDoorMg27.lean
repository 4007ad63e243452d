/-
  List of a line: a copy, sorted by when each is due.
-/
import Derived.Test.YtlignamakiiokaaGreatDoorMg10
import Derived.Test.YtlignamakiiokaaGreatDoorShelf2
import Derived.Sort.OwnSorted
namespace Go.Proofs.YtlignamakiiokaaGreatDoor
open Go.RowKit Go.Sort

/-- A world in which blocks have come and draws were made, and nothing else. -/
theorem grow_of_below {w w' : World} (h : Below w.heap.size w w') (hd : w.drawn ≤ w'.drawn) : ∃ q os, w' = Sort.grow (w.drewN q) os := by
  obtain ⟨h1, h2, h3, h4, h5⟩ := h
  refine ⟨w'.drawn - w.drawn, w'.heap.extract w.heap.size w'.heap.size, ?_⟩
  obtain ⟨heap', tape', drawn', os', out'⟩ := w'
  obtain ⟨heap, tape, drawn, os, out⟩ := w
  simp only at h1 h2 h3 h4 h5 hd
  subst h1 h2 h3
  simp only [Sort.grow, World.drewN, World.mk.injEq, and_true, true_and]
  refine ⟨?_, by omega⟩
  apply Array.ext_getElem?
  intro k
  by_cases hk : k < heap.size
  · rw [h5 k hk, Array.getElem?_append_left hk]
  · rw [Array.getElem?_append_right (by omega)]
    by_cases hk2 : k < heap'.size
    · rw [Array.getElem?_eq_getElem hk2, Array.getElem?_eq_getElem (by simp; omega)]
      simp [show heap.size + (k - heap.size) = k by omega]
    · rw [Array.getElem?_eq_none (by omega), Array.getElem?_eq_none (by simp; omega)]

theorem flat_dues (d : Array Due) : flatK dcells 3 d = (dlist d.toList).toArray := by
  apply Array.ext_getElem?
  intro t
  by_cases ht : t < d.size * 3
  · have h1 : (flatK dcells 3 d)[t]? = some (flatK dcells 3 d)[t]! := by simp [ht]
    rw [h1, get_flatK _ _ _ t ht]
    have hi : t / 3 < d.size := by omega
    have h2 := dlist_at d.toList (t / 3) (t % 3) d[t / 3]! (get_of hi) (by omega)
    rw [show t / 3 * 3 + t % 3 = t by omega] at h2
    rw [List.getElem?_toArray, h2]
    have h3 : t % 3 < (dcells d[t / 3]!).length := by simp [dcells]; omega
    simp [h3]
  · rw [Array.getElem?_eq_none (by simp; omega), Array.getElem?_eq_none (by simp [length_dlist]; omega)]

theorem holds_dues {w : World} {g n : Nat} {cur : Array Value} {e : TypeId} {l : List Due} (hb : w.heap[g]? = some (.cells cur e (0, 0))) (ht : cur.toList.take (n * 3) = dlist l) (hn : l.length = n) : HoldsK dcells 3 w g 0 l.toArray := by
  unfold HoldsK
  rw [flat_dues]
  intro j hj
  have hj' : j < n * 3 := by simpa [length_dlist, hn] using hj
  refine ⟨?_, by simp [World.frozen?, hb]⟩
  have h1 : (cur.toList.take (n * 3))[j]? = (dlist l)[j]? := by rw [ht]
  rw [List.getElem?_take_of_lt hj'] at h1
  simp only [World.cell?, hb, Nat.zero_add]
  simp only [Option.isSome_none, Bool.false_eq_true, if_false]
  rw [← Array.getElem?_toList, h1]
  have h2 : j < (dlist l).length := by rw [length_dlist]; omega
  simp [h2]

theorem heap_sortedV {w : World} {g n : Nat} {os : Array Obj} {cur : Array Value} {e : TypeId} {fr : Nat × Nat} (d : Array Value) (hb : w.heap[g]? = some (.cells cur e fr)) :
    (grow (putRow id (Sort.ahead w n) g 0 d) os).heap[g]? = some (.cells (putCells id 0 d cur) e fr) := by
  have hg : g < w.heap.size := (Array.getElem?_eq_some_iff.1 hb).1
  rw [heap_grow_old _ _ (by simpa using hg)]
  simp [putRow, mapBlock, Sort.ahead, Array.getElem?_modify, hb, onCells]

theorem grownBy_sortedV {w : World} {g n : Nat} {os : Array Obj} (d : Array Value) : w.grownBy (grow (putRow id (Sort.ahead w n) g 0 d) os) (some g) := by
  refine ⟨rfl, rfl, rfl, by simp, fun k hk hne => ?_⟩
  rw [heap_grow_old _ _ (by simpa using hk)]
  have : g ≠ k := fun e => hne (by rw [e])
  simp [putRow, mapBlock, Sort.ahead, Array.getElem?_modify, this]

theorem take_putCellsV (cur : Array Value) (ts : List Value) (h : ts.length ≤ cur.size) : (putCells id 0 ts.toArray cur).toList.take ts.length = ts := by
  apply List.ext_getElem?
  intro j
  by_cases hj : j < ts.length
  · rw [List.getElem?_take_of_lt hj, Array.getElem?_toList]
    simp [putCells, hj, show j < cur.size by omega]
  · rw [List.getElem?_take_eq_none (by omega), List.getElem?_eq_none (by omega)]

theorem ltOf_cmpDue : ltOf cmpDue = ltDue := by
  funext a b
  exact cmpDue_lt a b

set_option maxRecDepth 100000 in
theorem insDues_none (w : World) (A : Option Addr) (c : Nat) (f : Value) : Calls Tryz.prog 204 #[.slice A 0 c, .int .i64 0, .int .i64 0, f] w fun e w' => e = .returned (.tuple #[]) ∧ w' = w := by
  go_enter Tryz.func204, Tryz.ntmps204
  go_wp2
  go_loopg [8] 1 (fun g i wr => i = .int .i64 1 ∧ wr = w)
  case atStart => exact ⟨rfl, rfl⟩
  case round =>
    obtain ⟨rfl, rfl⟩ := hrel
    go_wp2
    go_end0
    exact ⟨rfl, rfl⟩

set_option maxRecDepth 100000 in
theorem pdqDues_none (w : World) (A : Option Addr) (c : Nat) (f : Value) : Calls Tryz.prog 180 #[.slice A 0 c, .int .i64 0, .int .i64 0, .int .i64 0, f] w fun e w' => e = .returned (.tuple #[]) ∧ w' = w := by
  go_enter Tryz.func180, Tryz.ntmps180
  go_wp2_with fail
  go_loopg [1, 2] 1 (fun g i j wr => i = .int .i64 0 ∧ j = .int .i64 0 ∧ wr = w)
  case atStart => exact ⟨rfl, rfl, rfl⟩
  case round =>
    obtain ⟨rfl, rfl, rfl⟩ := hrel
    go_wp2_with fail
    refine (insDues_none _ _ _ _).mono ?_
    rintro e w' ⟨rfl, rfl⟩
    go_wp2_with fail
    exact bodyPost_ret (results_none rfl _ _ _) rfl ⟨rfl, rfl⟩

set_option maxRecDepth 100000 in
theorem sortDues_none (w : World) (A : Option Addr) (c : Nat) (f : Value) : Calls Tryz.prog 158 #[.slice A 0 c, f] w fun e w' => e = .returned (.tuple #[]) ∧ w' = w := by
  go_enter Tryz.func158, Tryz.ntmps158
  go_wp2_with fail
  refine (Tryz.bits_Len 0 _ (by decide) (by decide)).mono ?_
  rintro e w' ⟨rfl, rfl⟩
  rw [show Lib.bitLen (Int.toNat 0) = 0 from rfl]
  go_wp2_with fail
  refine (pdqDues_none _ _ _ _).mono ?_
  rintro e w' ⟨rfl, rfl⟩
  go_wp2_with fail
  go_end0
  exact ⟨rfl, rfl⟩

/-- A row of one's own is sorted in its place. -/
theorem sortDues_own {w : World} {base : Nat} {v : Value} {l : List Due} (h : w.ownsRow base 173 3 v l.length (dlist l)) (hl : l.length ≤ 1000000) :
    Calls Tryz.prog 158 #[v, .func (.func 159) #[] #[]] w fun e w' => e = .returned (.tuple #[]) ∧ ∃ d : List Due, d.Perm l ∧ d.Pairwise (fun x y => ltDue y x = false) ∧ w'.ownsRow base 173 3 v l.length (dlist d) ∧ w.grownBy w' v.ownBlock := by
  rcases Nat.eq_zero_or_pos l.length with h0 | h0
  · obtain rfl := List.eq_nil_of_length_eq_zero h0
    obtain ⟨A, c, rfl⟩ := row_form h
    refine (sortDues_none w A c _).mono fun e w' he => ?_
    obtain ⟨rfl, rfl⟩ := he
    exact ⟨rfl, [], List.Perm.refl _, List.Pairwise.nil, h, rfl, rfl, rfl, Nat.le_refl _, fun _ _ _ => rfl⟩
  · rcases h.2 with ⟨_, h1⟩ | ⟨g, cap, cur, rfl, hb, hg, hnc, hcm, hcs, htake⟩
    · omega
    · have hH := holds_dues hg htake rfl
      have hs := AnyQ.slices_SortFunc Tryz.laysSlF06 3 (fun w => by kernel_rfl) (fun w => by kernel_rfl) dcells (fun _ => rfl) dcells_one cmpDue (by rw [ltOf_cmpDue]; exact swo_due) 159 #[] g 0 cap l.toArray w
        (fun _ _ => by kernel_rfl) (fun m os dk hdk x y => (order_more x y _).mono fun e w' he => ⟨he.1, grow_of_below he.2.1 he.2.2⟩) hH (lt_of_block hg) (by simp; omega)
      refine Calls.mono (f := 158) hs fun e w' he => ?_
      obtain ⟨rfl, d, n, os, hp, hso, rfl⟩ := he
      obtain ⟨hsz, _, hperm⟩ := hp
      have hd : d.toList.length = l.length := by simpa using hsz
      have hpm : d.toList.Perm l := by
        have e1 : d.extract 0 l.toArray.size = d := by rw [← hsz]; exact Array.extract_size
        rw [e1, Array.extract_size] at hperm
        simpa using hperm
      refine ⟨rfl, d.toList, hpm, ?_, ?_, grownBy_sortedV _⟩
      · rw [List.pairwise_iff_getElem]
        intro i j hi hj hij
        have hi' : i < d.size := by simpa using hi
        have hj' : j < d.size := by simpa using hj
        have := hso i j (Nat.zero_le _) hij (by simp; omega)
        rw [ltOf_cmpDue, getElem!_pos d j hj', getElem!_pos d i hi'] at this
        simpa using this
      · have hfl : flatK dcells 3 d = (dlist d.toList).toArray := flat_dues d
        have hlen : (dlist d.toList).length = l.length * 3 := by rw [length_dlist, hd]
        refine ⟨hlen, .inr ⟨g, cap, _, rfl, hb, heap_sortedV _ hg, hnc, hcm, by simp [putCells, hcs], ?_⟩⟩
        rw [hfl, ← hlen]
        exact take_putCellsV cur (dlist d.toList) (by rw [hlen, hcs]; exact Nat.mul_le_mul_right _ hnc)

theorem cloneDues_any {w : World} {base : Nat} {v : Value} {l : List Due} (h : w.ownsRow base 173 3 v l.length (dlist l)) (hl : l.length ≤ 1000000) :
    Calls Tryz.prog 157 #[v] w fun e w' => ∃ v', e = .returned v' ∧ w'.ownsRow w.heap.size 173 3 v' l.length (dlist l) ∧ Below w.heap.size w w' := by
  have hh := h
  rcases h.2 with ⟨rfl, h1⟩ | ⟨g, cap, cur, rfl, hb, hg, hnc, hcm, hcs, htake⟩
  · obtain rfl := List.eq_nil_of_length_eq_zero h1
    refine Calls.mono (f := 157) (AnyE.slices_Clone_nil Tryz.laysSlE041 0 0 w) fun e w' he => ?_
    obtain ⟨rfl, rfl⟩ := he
    exact ⟨_, rfl, World.ownsRow_nil _ _ _ _, Below.refl _ _⟩
  · obtain ⟨i0, hi, hz0, hz1, hz2⟩ := info_parts Tryz.infoDue
    have hc : ∀ j u, (dlist l)[j]? = some u → w.cell? ⟨g, 0 + j, none⟩ = some u := by
      intro j u hu
      have hj : j < l.length * 3 := by have := (List.getElem?_eq_some_iff.1 hu).1; rw [length_dlist] at this; exact this
      rw [Nat.zero_add, hh.cellAt j hj, hu]
    have h1 : ∀ u ∈ dlist l, u.oneCell' = true := by
      intro u hu
      obtain ⟨d, _, hd⟩ := List.mem_flatMap.1 hu
      exact dcells_one d u hd
    refine Calls.mono (f := 157) (AnyE.slices_Clone Tryz.laysSlE041 i0 _ 3 24 hi hz0 hz1 hz2 rfl (by decide) (fun w => by kernel_rfl) g 0 l.length cap (dlist l) w (length_dlist l) (by unfold maxLen; omega) (by omega) hc h1) fun e w' he => ?_
    obtain ⟨v', rfl, ho, _, hbw⟩ := he
    exact ⟨v', rfl, ho, hbw⟩

set_option maxRecDepth 100000 in
theorem llist_any {p o : Nat} {S : Spot2 o} {sq : Int} {w : World} {F : List Nat} {l : List Due} (h : LineIs p S sq w F l) :
    Calls Tryz.prog 113 #[.pointer (some ⟨p, o, none⟩)] w fun e w' => ∃ v' d, e = .returned v' ∧ d.Perm l ∧ d.Pairwise (fun x y => ltDue y x = false) ∧ w'.ownsRow w.heap.size 173 3 v' l.length (dlist d) ∧ Below w.heap.size w w' := by
  have hfew := h.few
  obtain ⟨a, ha, hh, hpm⟩ := h
  obtain ⟨v, hp, hr, hne, rfl, hs⟩ := ha
  have hz : a.toList.length = l.length := hpm.length_eq
  have hr' : w.ownsRow 0 173 3 v a.toList.length (dlist a.toList) := hr
  have hcl := cloneDues_any hr' (by rw [hz]; exact hfew)
  have hc := hp.spot1
  obtain ⟨A, c, rfl⟩ := row_form hr
  have HP := Lib.hid (And.intro hpm (And.intro hz hfew))
  clear hp hr hr' hne hs hh hpm hfew hz
  generalize a.size = n at *
  go_enter Tryz.func113, Tryz.ntmps113
  go_wp2_with fail
  refine hcl.mono ?_
  rintro e w1 ⟨v', rfl, ho, hb⟩
  obtain ⟨A', c', rfl⟩ := row_form ho
  have hso := sortDues_own ho (by have := HP.out; omega)
  have HB := Lib.hid (And.intro ho hb)
  generalize hm : a.toList.length = m at *
  clear ho hb hcl hc
  go_wp2_with fail
  with_reducible refine hso.mono ?_
  rintro e w2 ⟨rfl, d, hdp, hds, ho2, hg2⟩
  have H2 := Lib.hid (And.intro hdp (And.intro hds (And.intro ho2 hg2)))
  clear hdp hds ho2 hg2 hso
  go_wp2_with fail
  go_ret
  obtain ⟨hpm, hz, hfew⟩ := HP.out
  obtain ⟨ho, hb⟩ := HB.out
  obtain ⟨hdp, hds, ho2, hg2⟩ := H2.out
  refine ⟨_, d, rfl, hdp.trans hpm, hds, ?_, hb.trans ?_⟩
  · rw [← hz]
    exact ho2
  · refine ⟨hg2.os, hg2.tape, hg2.output, hg2.size, fun k hk => hg2.block k (Nat.lt_of_lt_of_le hk hb.size) (fun e => ?_)⟩
    have := (ho.lt k e.symm).1
    omega
end Go.Proofs.YtlignamakiiokaaGreatDoor
