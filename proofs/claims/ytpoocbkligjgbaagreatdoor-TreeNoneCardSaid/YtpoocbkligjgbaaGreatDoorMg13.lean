/-
  A pager's New. A pager's Undo. A pager's Flush.
-/
import Derived.Test.YtpoocbkligjgbaaGreatDoorMg11
import Derived.Test.YtpoocbkligjgbaaGreatDoorMg6
import Derived.Test.YtpoocbkligjgbaaGreatDoorMg12
import Derived.Carry
import Derived.Deep.RegionHeld3
namespace Go.Proofs.YtpoocbkligjgbaaGreatDoor
open Go.RowKit Go.Sort

set_option maxRecDepth 1000000 in
set_option maxHeartbeats 1000000 in
theorem gwithin_ok {w : World} {v : Value} {L : List Int} (q : Int) (hr : ReadsO [] w v (L.map (.int .i64))) (hL : L.length ≤ 1000000) (hall : ∀ x ∈ L, 2 ≤ x ∧ x < q) :
    Calls Tryz.prog 61 #[v, .int .i64 q] w fun e w' => e = .returned (.bool true) ∧ w = w' := by
  obtain ⟨A, c, rfl, hc⟩ := hr
  rw [List.length_map] at *
  rcases Nat.eq_zero_or_pos L.length with h0 | h0
  · rw [h0] at *
    clear hc
    go_enter Tryz.func61, Tryz.ntmps61
    go_wp2
    go_ret
    exact ⟨rfl, rfl⟩
  · obtain ⟨g, off, rfl, _, _, hcell⟩ := hc h0
    have hx0 := hall _ (List.getElem_mem h0)
    have hlast : L.length - 1 < L.length := by omega
    have hx1 := hall _ (List.getElem_mem hlast)
    have c0 := hcell 0 (.int .i64 L[0]) (by rw [List.getElem?_map, List.getElem?_eq_getElem h0]; rfl)
    have c1 := hcell (L.length - 1) (.int .i64 L[L.length - 1]) (by rw [List.getElem?_map, List.getElem?_eq_getElem hlast]; rfl)
    rw [Nat.add_zero] at c0
    generalize L[0] = x at *
    generalize L[L.length - 1] = y at *
    generalize L.length = n at *
    obtain ⟨m, rfl⟩ : ∃ m, n = m + 1 := ⟨n - 1, by omega⟩
    rw [Nat.add_sub_cancel] at c1
    have hm : decide (((m + 1 : Nat) : Int) = 0) = false := by simp; omega
    have hm2 : (((m + 1 : Nat) : Int) == 0) = false := by simp; omega
    have hs : IntKind.i64.wrap (((m + 1 : Nat) : Int) - 1) = m := by rw [IntWalk.i64_in _ (by omega)]; omega
    have d0 : decide (2 ≤ x) = true := by simpa using hx0.1
    have d1 : decide (y < q) = true := by simpa using hx1.2
    clear hall hcell hc hx0 hx1 hlast
    go_enter Tryz.func61, Tryz.ntmps61
    go_wp2
    go_ret
    exact ⟨rfl, rfl⟩

/-- A pager that begins. -/
def newPg (d : DevS) (l : List Int) (sq : Int) (m : List Due) (k : List Int) (pages txn : Int) : PgS := { dev := d, l := l, sq := sq, m := m, k := k, spare := [], there := pages, pages := pages, txn := txn, n := 0, H := fun _ => noChg }

set_option maxRecDepth 1000000 in
set_option maxHeartbeats 2000000 in
theorem gnew_ok {w : World} {pd pf : Nat} {d : DevS} {FD FF : List Nat} {l k : List Int} {sq : Int} {m : List Due} (pages txn : Int) (hd : DevAt w pd d FD) (hf : FreeIs pf w FF l sq m k) (hap : ∀ x ∈ FD, x ∉ FF) (h2 : 2 ≤ pages) (hlen : pages ≤ d.pages.length) (ht : 1 ≤ txn)
    (hall : ∀ x ∈ l ++ whats m, 2 ≤ x ∧ x < pages) (hfew : l.length + m.length ≤ 1000000) :
    Calls Tryz.prog 21 #[.pointer (some ⟨pd, 0, none⟩), .pointer (some ⟨pf, 0, none⟩), .int .i64 pages, .int .i64 txn] w fun e w' => ∃ p b F', e = .returned (.tuple #[.pointer (some ⟨p, 0, none⟩), .int .i64 0]) ∧
      PgIs p pd pf b (newPg d l sq m k pages txn) F' w' ∧ (∀ x ∈ F', x ∈ FD ∨ x ∈ FF ∨ w.heap.size ≤ x) ∧ Below w.heap.size w w' := by
  have hle := dvlen_any pd d FD w hd
  have hal := fall_any hf hfew
  have hrm := @run_makeMap Tryz.prog
  have e1 : decide (pages < 2) = false := by simpa using h2
  have e2 : decide ((d.pages.length : Int) < pages) = false := by simpa using hlen
  have e3 : decide (txn < 1) = false := by simpa using ht
  have hper : ((l ++ whats m).mergeSort leInt).length = l.length + m.length := by rw [List.length_mergeSort]; simp [whats]
  have hall2 : ∀ x ∈ (l ++ whats m).mergeSort leInt, 2 ≤ x ∧ x < pages := fun x hx => hall x ((List.mergeSort_perm _ _).mem_iff.1 hx)
  have HX := Lib.hid (And.intro hd (And.intro hf hap))
  have HP := Lib.hid (And.intro hper hall2)
  have HF := Lib.hid hfew
  generalize (d.pages.length : Int) = ln at *
  clear hd hf hap h2 hlen ht hall hfew hper hall2
  go_enter Tryz.func21, Tryz.ntmps21
  go_wp2_with fail
  refine hle.mono ?_
  rintro e w' ⟨rfl, rfl⟩
  go_wp2_with fail
  refine hal.mono ?_
  rintro e w1 ⟨v', rfl, hr, hb⟩
  rw [← HP.out.1] at hr
  have hro := row_readsO (F := []) hr (by simp)
  have hwi := gwithin_ok pages hro (by rw [HP.out.1]; exact HF.out) HP.out.2
  have HB := Lib.hid hb
  clear hle hal hr hb hro
  go_wp2_with fail
  refine hwi.mono ?_
  rintro e w' ⟨rfl, rfl⟩
  clear hwi
  go_wp2_with fail
  go_ret2
  obtain ⟨hd, hf, hap⟩ := HX.out
  have hb := HB.out
  have hb2 : Below w1.heap.size w1 (w1.alloc (.map #[] 0)) := alloc_below _
  have hb3 : Below (w1.alloc (.map #[] 0)).heap.size (w1.alloc (.map #[] 0)) ((w1.alloc (.map #[] 0)).alloc (.cells (pgCells pd pf w1.heap.size (.slice none 0 0) pages pages txn) 107)) := alloc_below _
  have hbb : Below w.heap.size w ((w1.alloc (.map #[] 0)).alloc (.cells (pgCells pd pf w1.heap.size (.slice none 0 0) pages pages txn) 107)) := (hb.trans (hb2.mono hb.size)).trans (hb3.mono (by simp; have := hb.size; omega))
  have hp := Has.made (w1.alloc (.map #[] 0)) 107 (pgCells pd pf w1.heap.size (.slice none 0 0) pages pages txn)
  have hsz : (w1.alloc (.map #[] 0)).heap.size = w1.heap.size + 1 := by simp
  rw [hsz] at hp
  have hh : HereIs ((w1.alloc (.map #[] 0)).alloc (.cells (pgCells pd pf w1.heap.size (.slice none 0 0) pages pages txn) 107)) w1.heap.size 0 (fun _ => noChg) := (HereIs.made w1).kept (G := []) (Kept.of_below hb3) (by simp)
  have hd2 := hd.kept (G := []) (Kept.of_below hbb) (by simp)
  have hf2 := hf.below hbb
  have hdl := hd.lt
  have hfl := hf.lt
  have hs1 := hb.size
  refine ⟨w1.heap.size + 1, w1.heap.size, _, rfl, ⟨.slice none 0 0, FD, FF, hp, NRow.nil _ _, hh, hd2, hf2, by omega, by simp [Value.ownBlock], fun x hx => ?_, hap, rfl⟩, fun x hx => ?_, hbb⟩
  · have hx2 : x = w1.heap.size + 1 ∨ x = w1.heap.size := by simpa [pgOwn, Value.ownBlock] using hx
    exact ⟨fun h => by have := hdl x h; omega, fun h => by have := hfl x h; omega⟩
  · rcases List.mem_append.1 hx with hx | hx
    · have hx2 : x = w1.heap.size + 1 ∨ x = w1.heap.size := by simpa [pgOwn, Value.ownBlock] using hx
      exact .inr (.inr (by omega))
    · exact (List.mem_append.1 hx).imp id .inl
end Go.Proofs.YtpoocbkligjgbaaGreatDoor

namespace Go.Proofs.YtpoocbkligjgbaaGreatDoor
open Go.RowKit Go.Sort

theorem ReadsO.at {F : List Nat} {w : World} {v : Value} {l : List Int} (h : ReadsO F w v (l.map (.int .i64))) (j : Nat) (hj : j < l.length) : ∃ b off c, v = .slice (some ⟨b, off, none⟩) l.length c ∧ w.cell? ⟨b, off + j, none⟩ = some (.int .i64 l[j]) := by
  obtain ⟨A, c, rfl, h⟩ := h
  obtain ⟨b, off, rfl, _, _, hc⟩ := h (by simp; omega)
  exact ⟨b, off, c, by simp, hc j _ (by rw [List.getElem?_map, List.getElem?_eq_getElem hj]; rfl)⟩
theorem ReadsO.form {F : List Nat} {w : World} {v : Value} {l : List Int} (h : ReadsO F w v (l.map (.int .i64))) : ∃ A c, v = .slice A l.length c := by
  obtain ⟨A, c, rfl, h⟩ := h
  exact ⟨A, c, by simp⟩

section
variable {p pd pf b : Nat} {s : PgS} {F : List Nat} {w : World}


end
end Go.Proofs.YtpoocbkligjgbaaGreatDoor

namespace Go.Proofs.YtpoocbkligjgbaaGreatDoor
open Go.RowKit Go.Sort Go.Lib






theorem seal_small {id kind next : Int} {n : Nat} (h : sealE id kind next n = 0) : n ≤ 240 := by
  unfold sealE at h
  split at h
  · split at h
    · assumption
    · cases h
  · cases h

section
variable {p pd pf b : Nat} {s : PgS} {F : List Nat} {w : World}

end
end Go.Proofs.YtpoocbkligjgbaaGreatDoor
