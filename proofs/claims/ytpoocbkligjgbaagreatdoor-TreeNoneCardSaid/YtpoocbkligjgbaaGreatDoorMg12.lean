/-
  List of a line: a copy, sorted by when each is due. Free pages: All. Appending what can be read, in a region whose order is open; two operations that may go either way.
-/
import Derived.Test.YtpoocbkligjgbaaGreatDoorMg6
import Derived.Test.YtpoocbkligjgbaaGreatDoorShelf2
import Derived.Sort.OwnSorted
namespace Go.Proofs.YtpoocbkligjgbaaGreatDoor
open Go.RowKit Go.Sort

/-- A world in which blocks have come and draws were made, and nothing else. -/
theorem grow_of_below {w w' : World} (h : Below w.heap.size w w') (hd : w.drawn ≤ w'.drawn) : ∃ q os, w' = Sort.grow (w.drewN q) os := by
  obtain ⟨h1, h2, h3, h4, h5⟩ := h
  refine ⟨w'.drawn - w.drawn, w'.heap.extract w.heap.size w'.heap.size, ?_⟩
  obtain ⟨heap', tape', drawn', os', out'⟩ := w'
  obtain ⟨heap, tape, drawn, os, out⟩ := w
  simp only at h1 h2 h3 h4 h5 hd
  subst h1 h2 h3
  simp only [Sort.grow, World.drewN, World.mk.injEq, and_true, true_and]
  refine ⟨?_, by omega⟩
  apply Array.ext_getElem?
  intro k
  by_cases hk : k < heap.size
  · rw [h5 k hk, Array.getElem?_append_left hk]
  · rw [Array.getElem?_append_right (by omega)]
    by_cases hk2 : k < heap'.size
    · rw [Array.getElem?_eq_getElem hk2, Array.getElem?_eq_getElem (by simp; omega)]
      simp [show heap.size + (k - heap.size) = k by omega]
    · rw [Array.getElem?_eq_none (by omega), Array.getElem?_eq_none (by simp; omega)]

theorem flat_dues (d : Array Due) : flatK dcells 3 d = (dlist d.toList).toArray := by
  apply Array.ext_getElem?
  intro t
  by_cases ht : t < d.size * 3
  · have h1 : (flatK dcells 3 d)[t]? = some (flatK dcells 3 d)[t]! := by simp [ht]
    rw [h1, get_flatK _ _ _ t ht]
    have hi : t / 3 < d.size := by omega
    have h2 := dlist_at d.toList (t / 3) (t % 3) d[t / 3]! (get_of hi) (by omega)
    rw [show t / 3 * 3 + t % 3 = t by omega] at h2
    rw [List.getElem?_toArray, h2]
    have h3 : t % 3 < (dcells d[t / 3]!).length := by simp [dcells]; omega
    simp [h3]
  · rw [Array.getElem?_eq_none (by simp; omega), Array.getElem?_eq_none (by simp [length_dlist]; omega)]

theorem holds_dues {w : World} {g n : Nat} {cur : Array Value} {e : TypeId} {l : List Due} (hb : w.heap[g]? = some (.cells cur e (0, 0))) (ht : cur.toList.take (n * 3) = dlist l) (hn : l.length = n) : HoldsK dcells 3 w g 0 l.toArray := by
  unfold HoldsK
  rw [flat_dues]
  intro j hj
  have hj' : j < n * 3 := by simpa [length_dlist, hn] using hj
  refine ⟨?_, by simp [World.frozen?, hb]⟩
  have h1 : (cur.toList.take (n * 3))[j]? = (dlist l)[j]? := by rw [ht]
  rw [List.getElem?_take_of_lt hj'] at h1
  simp only [World.cell?, hb, Nat.zero_add]
  simp only [Option.isSome_none, Bool.false_eq_true, if_false]
  rw [← Array.getElem?_toList, h1]
  have h2 : j < (dlist l).length := by rw [length_dlist]; omega
  simp [h2]

theorem heap_sortedV {w : World} {g n : Nat} {os : Array Obj} {cur : Array Value} {e : TypeId} {fr : Nat × Nat} (d : Array Value) (hb : w.heap[g]? = some (.cells cur e fr)) :
    (grow (putRow id (Sort.ahead w n) g 0 d) os).heap[g]? = some (.cells (putCells id 0 d cur) e fr) := by
  have hg : g < w.heap.size := (Array.getElem?_eq_some_iff.1 hb).1
  rw [heap_grow_old _ _ (by simpa using hg)]
  simp [putRow, mapBlock, Sort.ahead, Array.getElem?_modify, hb, onCells]

theorem grownBy_sortedV {w : World} {g n : Nat} {os : Array Obj} (d : Array Value) : w.grownBy (grow (putRow id (Sort.ahead w n) g 0 d) os) (some g) := by
  refine ⟨rfl, rfl, rfl, by simp, fun k hk hne => ?_⟩
  rw [heap_grow_old _ _ (by simpa using hk)]
  have : g ≠ k := fun e => hne (by rw [e])
  simp [putRow, mapBlock, Sort.ahead, Array.getElem?_modify, this]

theorem take_putCellsV (cur : Array Value) (ts : List Value) (h : ts.length ≤ cur.size) : (putCells id 0 ts.toArray cur).toList.take ts.length = ts := by
  apply List.ext_getElem?
  intro j
  by_cases hj : j < ts.length
  · rw [List.getElem?_take_of_lt hj, Array.getElem?_toList]
    simp [putCells, hj, show j < cur.size by omega]
  · rw [List.getElem?_take_eq_none (by omega), List.getElem?_eq_none (by omega)]

theorem ltOf_cmpDue : ltOf cmpDue = ltDue := by
  funext a b
  exact cmpDue_lt a b

set_option maxRecDepth 100000 in
theorem insDues_none (w : World) (A : Option Addr) (c : Nat) (f : Value) : Calls Tryz.prog 253 #[.slice A 0 c, .int .i64 0, .int .i64 0, f] w fun e w' => e = .returned (.tuple #[]) ∧ w' = w := by
  go_enter Tryz.func253, Tryz.ntmps253
  go_wp2
  go_loopg [8] 1 (fun g i wr => i = .int .i64 1 ∧ wr = w)
  case atStart => exact ⟨rfl, rfl⟩
  case round =>
    obtain ⟨rfl, rfl⟩ := hrel
    go_wp2
    go_end0
    exact ⟨rfl, rfl⟩

set_option maxRecDepth 100000 in
theorem pdqDues_none (w : World) (A : Option Addr) (c : Nat) (f : Value) : Calls Tryz.prog 208 #[.slice A 0 c, .int .i64 0, .int .i64 0, .int .i64 0, f] w fun e w' => e = .returned (.tuple #[]) ∧ w' = w := by
  go_enter Tryz.func208, Tryz.ntmps208
  go_wp2_with fail
  go_loopg [1, 2] 1 (fun g i j wr => i = .int .i64 0 ∧ j = .int .i64 0 ∧ wr = w)
  case atStart => exact ⟨rfl, rfl, rfl⟩
  case round =>
    obtain ⟨rfl, rfl, rfl⟩ := hrel
    go_wp2_with fail
    refine (insDues_none _ _ _ _).mono ?_
    rintro e w' ⟨rfl, rfl⟩
    go_wp2_with fail
    exact bodyPost_ret (results_none rfl _ _ _) rfl ⟨rfl, rfl⟩

set_option maxRecDepth 100000 in
theorem sortDues_none (w : World) (A : Option Addr) (c : Nat) (f : Value) : Calls Tryz.prog 150 #[.slice A 0 c, f] w fun e w' => e = .returned (.tuple #[]) ∧ w' = w := by
  go_enter Tryz.func150, Tryz.ntmps150
  go_wp2_with fail
  refine (Tryz.bits_Len 0 _ (by decide) (by decide)).mono ?_
  rintro e w' ⟨rfl, rfl⟩
  rw [show Lib.bitLen (Int.toNat 0) = 0 from rfl]
  go_wp2_with fail
  refine (pdqDues_none _ _ _ _).mono ?_
  rintro e w' ⟨rfl, rfl⟩
  go_wp2_with fail
  go_end0
  exact ⟨rfl, rfl⟩

/-- A row of one's own is sorted in its place. -/
theorem sortDues_own {w : World} {base : Nat} {v : Value} {l : List Due} (h : w.ownsRow base 115 3 v l.length (dlist l)) (hl : l.length ≤ 1000000) :
    Calls Tryz.prog 150 #[v, .func (.func 151) #[] #[]] w fun e w' => e = .returned (.tuple #[]) ∧ ∃ d : List Due, d.Perm l ∧ d.Pairwise (fun x y => ltDue y x = false) ∧ w'.ownsRow base 115 3 v l.length (dlist d) ∧ w.grownBy w' v.ownBlock := by
  rcases Nat.eq_zero_or_pos l.length with h0 | h0
  · obtain rfl := List.eq_nil_of_length_eq_zero h0
    obtain ⟨A, c, rfl⟩ := row_form h
    refine (sortDues_none w A c _).mono fun e w' he => ?_
    obtain ⟨rfl, rfl⟩ := he
    exact ⟨rfl, [], List.Perm.refl _, List.Pairwise.nil, h, rfl, rfl, rfl, Nat.le_refl _, fun _ _ _ => rfl⟩
  · rcases h.2 with ⟨_, h1⟩ | ⟨g, cap, cur, rfl, hb, hg, hnc, hcm, hcs, htake⟩
    · omega
    · have hH := holds_dues hg htake rfl
      have hs := AnyQ.slices_SortFunc Tryz.laysSlF06 3 (fun w => by kernel_rfl) (fun w => by kernel_rfl) dcells (fun _ => rfl) dcells_one cmpDue (by rw [ltOf_cmpDue]; exact swo_due) 151 #[] g 0 cap l.toArray w
        (fun _ _ => by kernel_rfl) (fun m os dk hdk x y => (order_more x y _).mono fun e w' he => ⟨he.1, grow_of_below he.2.1 he.2.2⟩) hH (lt_of_block hg) (by simp; omega)
      refine Calls.mono (f := 150) hs fun e w' he => ?_
      obtain ⟨rfl, d, n, os, hp, hso, rfl⟩ := he
      obtain ⟨hsz, _, hperm⟩ := hp
      have hd : d.toList.length = l.length := by simpa using hsz
      have hpm : d.toList.Perm l := by
        have e1 : d.extract 0 l.toArray.size = d := by rw [← hsz]; exact Array.extract_size
        rw [e1, Array.extract_size] at hperm
        simpa using hperm
      refine ⟨rfl, d.toList, hpm, ?_, ?_, grownBy_sortedV _⟩
      · rw [List.pairwise_iff_getElem]
        intro i j hi hj hij
        have hi' : i < d.size := by simpa using hi
        have hj' : j < d.size := by simpa using hj
        have := hso i j (Nat.zero_le _) hij (by simp; omega)
        rw [ltOf_cmpDue, getElem!_pos d j hj', getElem!_pos d i hi'] at this
        simpa using this
      · have hfl : flatK dcells 3 d = (dlist d.toList).toArray := flat_dues d
        have hlen : (dlist d.toList).length = l.length * 3 := by rw [length_dlist, hd]
        refine ⟨hlen, .inr ⟨g, cap, _, rfl, hb, heap_sortedV _ hg, hnc, hcm, by simp [putCells, hcs], ?_⟩⟩
        rw [hfl, ← hlen]
        exact take_putCellsV cur (dlist d.toList) (by rw [hlen, hcs]; exact Nat.mul_le_mul_right _ hnc)

theorem cloneDues_any {w : World} {base : Nat} {v : Value} {l : List Due} (h : w.ownsRow base 115 3 v l.length (dlist l)) (hl : l.length ≤ 1000000) :
    Calls Tryz.prog 149 #[v] w fun e w' => ∃ v', e = .returned v' ∧ w'.ownsRow w.heap.size 115 3 v' l.length (dlist l) ∧ Below w.heap.size w w' := by
  have hh := h
  rcases h.2 with ⟨rfl, h1⟩ | ⟨g, cap, cur, rfl, hb, hg, hnc, hcm, hcs, htake⟩
  · obtain rfl := List.eq_nil_of_length_eq_zero h1
    refine Calls.mono (f := 149) (AnyE.slices_Clone_nil Tryz.laysSlE041 0 0 w) fun e w' he => ?_
    obtain ⟨rfl, rfl⟩ := he
    exact ⟨_, rfl, World.ownsRow_nil _ _ _ _, Below.refl _ _⟩
  · obtain ⟨i0, hi, hz0, hz1, hz2⟩ := info_parts Tryz.infoDue
    have hc : ∀ j u, (dlist l)[j]? = some u → w.cell? ⟨g, 0 + j, none⟩ = some u := by
      intro j u hu
      have hj : j < l.length * 3 := by have := (List.getElem?_eq_some_iff.1 hu).1; rw [length_dlist] at this; exact this
      rw [Nat.zero_add, hh.cellAt j hj, hu]
    have h1 : ∀ u ∈ dlist l, u.oneCell' = true := by
      intro u hu
      obtain ⟨d, _, hd⟩ := List.mem_flatMap.1 hu
      exact dcells_one d u hd
    refine Calls.mono (f := 149) (AnyE.slices_Clone Tryz.laysSlE041 i0 _ 3 24 hi hz0 hz1 hz2 rfl (by decide) (fun w => by kernel_rfl) g 0 l.length cap (dlist l) w (length_dlist l) (by unfold maxLen; omega) (by omega) hc h1) fun e w' he => ?_
    obtain ⟨v', rfl, ho, _, hbw⟩ := he
    exact ⟨v', rfl, ho, hbw⟩

set_option maxRecDepth 100000 in
theorem llist_any {p o : Nat} {S : Spot2 o} {sq : Int} {w : World} {F : List Nat} {l : List Due} (h : LineIs p S sq w F l) :
    Calls Tryz.prog 105 #[.pointer (some ⟨p, o, none⟩)] w fun e w' => ∃ v' d, e = .returned v' ∧ d.Perm l ∧ d.Pairwise (fun x y => ltDue y x = false) ∧ w'.ownsRow w.heap.size 115 3 v' l.length (dlist d) ∧ Below w.heap.size w w' := by
  have hfew := h.few
  obtain ⟨a, ha, hh, hpm⟩ := h
  obtain ⟨v, hp, hr, hne, rfl, hs⟩ := ha
  have hz : a.toList.length = l.length := hpm.length_eq
  have hr' : w.ownsRow 0 115 3 v a.toList.length (dlist a.toList) := hr
  have hcl := cloneDues_any hr' (by rw [hz]; exact hfew)
  have hc := hp.spot1
  obtain ⟨A, c, rfl⟩ := row_form hr
  have HP := Lib.hid (And.intro hpm (And.intro hz hfew))
  clear hp hr hr' hne hs hh hpm hfew hz
  generalize a.size = n at *
  go_enter Tryz.func105, Tryz.ntmps105
  go_wp2_with fail
  refine hcl.mono ?_
  rintro e w1 ⟨v', rfl, ho, hb⟩
  obtain ⟨A', c', rfl⟩ := row_form ho
  have hso := sortDues_own ho (by have := HP.out; omega)
  have HB := Lib.hid (And.intro ho hb)
  generalize hm : a.toList.length = m at *
  clear ho hb hcl hc
  go_wp2_with fail
  with_reducible refine hso.mono ?_
  rintro e w2 ⟨rfl, d, hdp, hds, ho2, hg2⟩
  have H2 := Lib.hid (And.intro hdp (And.intro hds (And.intro ho2 hg2)))
  clear hdp hds ho2 hg2 hso
  go_wp2_with fail
  go_ret
  obtain ⟨hpm, hz, hfew⟩ := HP.out
  obtain ⟨ho, hb⟩ := HB.out
  obtain ⟨hdp, hds, ho2, hg2⟩ := H2.out
  refine ⟨_, d, rfl, hdp.trans hpm, hds, ?_, hb.trans ?_⟩
  · rw [← hz]
    exact ho2
  · refine ⟨hg2.os, hg2.tape, hg2.output, hg2.size, fun k hk => hg2.block k (Nat.lt_of_lt_of_le hk hb.size) (fun e => ?_)⟩
    have := (ho.lt k e.symm).1
    omega
end Go.Proofs.YtpoocbkligjgbaaGreatDoor

namespace Go.Proofs.YtpoocbkligjgbaaGreatDoor
open Go.RowKit Go.Sort

/-- Where All stands: j of those that wait stand behind the free ones. -/
def AllAt (w : World) (sl : List Int) (d : List Due) (v2 : Value) (n : Nat) (g : Nat) (lv iv : Value) (wr : World) : Prop :=
  ∃ j : Nat, iv = .int .i64 j ∧ j + g = n ∧ wr.ownsRow 0 3 1 lv (sl.length + j) ((sl ++ whats (d.take j)).map (.int .i64)) ∧ (∀ q, lv.ownBlock = some q → w.heap.size ≤ q ∧ v2.ownBlock ≠ some q) ∧
    wr.ownsRow 0 115 3 v2 n (dlist d) ∧ Below w.heap.size w wr

set_option maxRecDepth 100000 in
set_option maxHeartbeats 1000000 in
theorem fall_any {p : Nat} {w : World} {F : List Nat} {l k : List Int} {m : List Due} {sq : Int} (h : FreeIs p w F l sq m k) (hfew : l.length + m.length ≤ 1000000) :
    Calls Tryz.prog 62 #[.pointer (some ⟨p, 0, none⟩)] w fun e w' => ∃ v', e = .returned v' ∧ w'.ownsRow w.heap.size 3 1 v' (l.length + m.length) (((l ++ whats m).mergeSort leInt).map (.int .i64)) ∧ Below w.heap.size w w' := by
  obtain ⟨S, F0, h0, _, _⟩ := h.free
  have hli := list_any h0
  have H := Lib.hid (And.intro h hfew)
  obtain ⟨L, hL⟩ : ∃ n, l.length = n := ⟨_, rfl⟩
  obtain ⟨n, hn⟩ : ∃ n, m.length = n := ⟨_, rfl⟩
  rw [hL, hn]
  rw [hL] at hli
  have HN := Lib.hid (And.intro hL hn)
  clear h h0 hL hn hfew
  go_enter Tryz.func62, Tryz.ntmps62
  go_wp2_with fail
  refine hli.mono ?_
  rintro e w1 ⟨v1, rfl, ho1, hb1⟩
  obtain ⟨A1, c1, hv1⟩ := row_form ho1
  obtain ⟨S1, G1, h1, _, _⟩ := (H.out.1.below hb1).waits
  have hll := llist_any h1
  rw [HN.out.2] at hll
  have H1 := Lib.hid (And.intro ho1 (And.intro hb1 hv1))
  clear ho1 hb1 hli h1
  subst hv1
  go_wp2_with fail
  refine hll.mono ?_
  rintro e w2 ⟨v2, d, rfl, hdp, hds, ho2, hb2⟩
  obtain ⟨A2, c2, hv2⟩ := row_form ho2
  have hst : AllAt w (l.mergeSort leInt) d v2 n n (.slice A1 L c1) (.int .i64 0) w2 := by
    obtain ⟨ho1, hb1, _⟩ := H1.out
    have hlen : (l.mergeSort leInt).length = L := by rw [List.length_mergeSort, HN.out.1]
    refine ⟨0, rfl, by omega, ?_, fun q hq => ⟨(ho1.lt q hq).1, fun h2 => ?_⟩, row_base0 ho2, hb1.trans (hb2.mono hb1.size)⟩
    · rw [hlen]
      simpa [whats] using row_kept (row_base0 ho1) (Kept.of_below (F := []) hb2) (by simp)
    · have := (ho1.lt q hq).2
      have := (ho2.lt q h2).1
      omega
  have H2 := Lib.hid (And.intro hst (And.intro hdp hv2))
  clear hst hdp hds ho2 hb2 hll
  subst hv2
  go_wp2_with fail
  go_loopg [3, 17] n (AllAt w (l.mergeSort leInt) d (.slice A2 n c2) n)
  case atStart => exact H2.out.1
  case round =>
    obtain ⟨j, rfl, hjg, hol, hne, hod, hbw⟩ := hrel
    have hdl : d.length = n := by rw [H2.out.2.1.length_eq, HN.out.2]
    have hsl : (l.mergeSort leInt).length = L := by rw [List.length_mergeSort, HN.out.1]
    by_cases hlt : j < n
    · have hjd : j < d.length := by omega
      rcases hod.2 with ⟨_, h1⟩ | ⟨g2, cap2, cur2, hv, _, hg2, _⟩
      · omega
      · simp only [Value.slice.injEq] at hv
        obtain ⟨rfl, _, rfl⟩ := hv
        have hod' : wr.ownsRow 0 115 3 (.slice (some ⟨g2, 0, none⟩) n c2) n (dlist d.toArray.toList) := by simpa using hod
        have rn := due_range hod' (i := j) (by simpa using hjd)
        have hxe : d.toArray[j]! = d[j] := by simp [hjd]
        rw [hxe] at rn
        have c0 := rn 0 (.int .i64 d[j].1) rfl
        have c1' := rn 1 (.int .i64 d[j].2.1) rfl
        have c2' := rn 2 (.int .i64 d[j].2.2) rfl
        simp only [Nat.add_zero] at c0
        have hw : whats (d.take (j + 1)) = whats (d.take j) ++ [d[j].2.2] := by
          unfold whats
          rw [List.take_succ_eq_append_getElem hjd, List.map_append]
          rfl
        have hgl : g2 < wr.heap.size := lt_of_block hg2
        obtain ⟨A3, c3, hv3⟩ := row_form hol
        obtain ⟨i0, hi0, hzz0, hzz1, hzz2⟩ := info_parts Tryz.infoInt
        have hra := World.ownsRow.alloc (World.ownsRow.alloc hol (.cells #[.int .i64 d[j].1, .int .i64 d[j].2.1, .int .i64 d[j].2.2] 115)) (.cells #[.int .i64 d[j].2.2] 3)
        have hrd := World.ownsRow.alloc (World.ownsRow.alloc hod (.cells #[.int .i64 d[j].1, .int .i64 d[j].2.1, .int .i64 d[j].2.2] 115)) (.cells #[.int .i64 d[j].2.2] 3)
        have hbl : Below wr.heap.size wr ((wr.alloc (.cells #[.int .i64 d[j].1, .int .i64 d[j].2.1, .int .i64 d[j].2.2] 115)).alloc (.cells #[.int .i64 d[j].2.2] 3)) := ((Below.refl _ _).alloc (Nat.le_refl _) _).alloc (by simp) _
        have HR := Lib.hid (And.intro hw (And.intro hne (And.intro hrd (And.intro hbl hbw))))
        have hLn : L + n ≤ 1000000 := by have := H.out.2; rw [HN.out.1, HN.out.2] at this; exact this
        rw [hsl] at hra hv3
        have HSL := Lib.hid hsl
        generalize d[j] = x at *
        have hj1 : (j : Int) < n := by omega
        have hj0 : (0 : Int) ≤ j := by omega
        have hjb : decide ((j : Int) < 0) = false := by simp
        have hjb2 : decide (n ≤ j) = false := by simp; omega
        subst hv3
        have hcell : ∀ q u, ([.int .i64 x.2.2] : List Value)[q]? = some u → ((wr.alloc (.cells #[.int .i64 x.1, .int .i64 x.2.1, .int .i64 x.2.2] 115)).alloc (.cells #[.int .i64 x.2.2] 3)).cell? ((⟨wr.heap.size + 1, 0, none⟩ : Addr).add q) = some u := by
          intro q u hq
          rcases q with _ | q <;> simp at hq
          subst hq
          simp [Go.WideShapes.add_plain]
        clear hol hne hrd hbl hbw hod hod' rn hxe hw hg2 hdl hsl
        go_wp2_with (at_builtin; refine wpList_append_keeps rfl _ _ 49 3 i0 (.int .i64 0) 1 8 Tryz.underlying49 hi0 hzz0 hzz1 hzz2 rfl (by decide) rfl _ (.slice A3 (L + j) c3) (L + j) _ rfl hra ⟨wr.heap.size + 1, 0, none⟩ 1 1 rfl [.int .i64 x.2.2] rfl hcell (by intro u hu; simp at hu; subst hu; rfl) (by omega) (by unfold maxLen; omega) (by omega) ?_; intro v' w' hown' hgn)
        go_roundg (n - (j + 1))
        case measure => omega
        case rel =>
          obtain ⟨hw, hne, hrd, hbl, hbw⟩ := HR.out
          have hk := hgn.1
          have hsz := hbl.size
          refine ⟨j + 1, by go_num, by omega, ?_, fun q hq => ?_, row_kept hrd hk.1 (fun q hq hin => ?_), ?_⟩
          · rw [hw, HSL.out]
            have e : L + (j + 1) = L + j + 1 := by omega
            rw [e]
            simpa using hown'
          · rcases hk.2 q (by simp [hq]) with h | h
            · exact hne q (by simpa using h)
            · refine ⟨by have := hbw.size; omega, fun h2 => ?_⟩
              simp [Value.ownBlock] at h2
              omega
          · exact (hne q (by simpa using hin)).2 hq
          · exact (hbw.trans (hbl.mono hbw.size)).trans (hk.1.below (by have := hbw.size; omega) (fun q hq => (hne q (by simpa using hq)).1))
    · obtain rfl : j = n := by omega
      have hfull : d.take j = d := List.take_of_length_le (by omega)
      rw [hfull, hsl] at hol
      have hpm : (l.mergeSort leInt ++ whats d).Perm (l ++ whats m) := (List.mergeSort_perm l leInt).append (H2.out.2.1.map fun d : Due => d.2.2)
      have hlen : (l.mergeSort leInt ++ whats d).length = L + j := by simp [whats, hsl, hdl]
      have hol2 : wr.ownsRow w.heap.size 3 1 u3 (l.mergeSort leInt ++ whats d).length ((l.mergeSort leInt ++ whats d).map (.int .i64)) := by
        rw [hlen]
        refine ⟨hol.1, ?_⟩
        rcases hol.2 with h | ⟨g, cap, cur, rfl, _, rest⟩
        · exact .inl h
        · exact .inr ⟨g, cap, cur, rfl, (hne g rfl).1, rest⟩
      have hso := sort_own hol2 (by rw [hlen]; have := H.out.2; rw [HN.out.1, HN.out.2] at this; exact this)
      rw [sort_perm hpm, hlen] at hso
      have HE := Lib.hid (And.intro hbw hne)
      obtain ⟨A3, c3, hv3⟩ := row_form hol
      subst hv3
      clear hol hol2 hne hod hbw hfull hpm hlen hdl hsl hlt hjg
      go_wp2_with fail
      refine hso.mono ?_
      rintro e w3 ⟨rfl, ho3, hg3⟩
      have H3 := Lib.hid (And.intro ho3 hg3)
      clear ho3 hg3 hso
      go_wp2_with fail
      go_ret
      obtain ⟨hbw, hne⟩ := HE.out
      exact ⟨_, rfl, H3.out.1, hbw.trans (below_of_grownBy' H3.out.2 hbw.size (fun g hg => (hne g hg).1))⟩
end Go.Proofs.YtpoocbkligjgbaaGreatDoor

namespace Go.Proofs.YtpoocbkligjgbaaGreatDoor
open Go.RowKit

/-- append(row, v...) in a region whose order is open. -/
theorem wp_append_reads {K : Act → World → Prop} {o : Oper} {a : Act} {Q : Exit → Act → World → Prop} (s x : Operand) (t e : TypeId) (z : Value) (nb : Nat) (ht : Tryz.prog.underlying t = some (.slice e)) (hinfo : (Tryz.prog.info? e).map (fun i => (i.zero, i.size, i.bytes)) = some (some z, 1, nb)) (hzs : z.cells.size = 1) (hnb : nb ≤ 16)
    (ho : o.op = .call { callee := .builtin .append, args := #[s, x], argTypes := #[t, t] }) (base : Nat) (wr : World) (d : Value) (n : Nat) (xs : List Value) (hs : a.eval s = d) (hown : wr.ownsRow base e 1 d n xs) (B : Nat) (v : Value) (hx : a.eval x = v) (vals : List Value) (hr : Reads1 wr B v vals)
    (hform : ∀ n c, v = .slice none n c → n = 0 ∧ c = 0) (h1 : ∀ u ∈ vals, u.oneCell' = true) (hlen : n + vals.length ≤ 1000000) (hbase : base ≤ wr.heap.size)
    (h : ∀ v' w', w'.ownsRow base e 1 v' (n + vals.length) (xs ++ vals) → wr.grownBy w' d.ownBlock → K (a.put o.dst v') w') : o.wp Tryz.prog a wr K Q := by
  obtain ⟨i0, hi, hz0, hz1, hz2⟩ := info_parts hinfo
  obtain ⟨A, c, rfl, hc⟩ := hr
  have hmul : (n + vals.length) * nb ≤ 16000000 := by
    have := Nat.mul_le_mul hlen hnb
    omega
  cases A with
  | none =>
    obtain ⟨h0, rfl⟩ := hform _ _ rfl
    obtain rfl : vals = [] := List.eq_nil_of_length_eq_zero h0
    have hrun := run_append_owned_none (P := Tryz.prog) (w := wr) base t o.type e i0 1 ht hi d n xs hown
    have h2 := h d wr (by simpa using hown) ⟨rfl, rfl, rfl, Nat.le_refl _, fun _ _ _ => rfl⟩
    unfold Oper.wp
    simp only [List.length_nil] at hx
    simp [execOp, ho, resolve, invoke, builtin, hs, hx, hrun, Result.andThen]
    exact h2
  | some ad =>
    have hcells : ∀ j u, vals[j]? = some u → wr.cell? (ad.add j) = some u := by
      intro j u hu
      have hj := (List.getElem?_eq_some_iff.1 hu).1
      obtain ⟨b, off, hA, _, hcell⟩ := hc (by omega)
      obtain rfl := Option.some.inj hA
      rw [Go.WideShapes.add_plain]
      exact hcell j u hu
    exact wp_append_own wr s x t ho base e i0 z 1 nb ht hi hz0 hz1 hz2 hzs (by decide) _ n xs hs hown ad vals.length c vals hx (by simp) hcells h1 (by unfold maxLen; omega) (by omega) hbase (fun v' w' h2 h3 _ => h v' w' h2 h3)

/-- Two are ready. -/
theorem till_two {P : Program} {ops : Array Oper} {Q : Exit → Act → World → Prop} {md : Region.Mode} {S : World → Prop} {last : Nat} {i j : Nat} {oi oj : Oper} {n : Nat} {seen : Array Bool} {a : Act} {w : World} (hr : Region.ready md ops seen = [i, j]) (hi : ops[i]? = some oi) (hj : ops[j]? = some oj) (hg : oi.guard = none) (hg' : oj.guard = none)
    (h : ∀ K : Act → World → Prop, (∀ a' w', ((i < last → S w') ∧ Till P md ops Q S last n (seen.setIfInBounds i true) a' w') → K a' w') → oi.wp P a w K Q)
    (h' : ∀ K : Act → World → Prop, (∀ a' w', ((j < last → S w') ∧ Till P md ops Q S last n (seen.setIfInBounds j true) a' w') → K a' w') → oj.wp P a w K Q) : Till P md ops Q S last (n + 1) seen a w := by
  refine ⟨(fun h0 => by rw [hr] at h0; cases h0), fun k hk => ?_⟩
  rw [hr] at hk
  simp only [List.mem_cons, List.not_mem_nil, or_false] at hk
  unfold wpOp
  rcases hk with rfl | rfl
  · simp only [hi]
    rw [if_pos (by simp [Region.wanted, hg])]
    exact .inl (h _ fun _ _ hh => hh)
  · simp only [hj]
    rw [if_pos (by simp [Region.wanted, hg'])]
    exact .inl (h' _ fun _ _ hh => hh)
end Go.Proofs.YtpoocbkligjgbaaGreatDoor
