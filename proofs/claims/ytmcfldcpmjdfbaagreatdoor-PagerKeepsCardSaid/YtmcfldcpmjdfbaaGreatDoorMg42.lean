/-
  A pager's New. A pager's Undo. A pager's Flush.
-/
import Derived.Test.YtmcfldcpmjdfbaaGreatDoorMg39
import Derived.Test.YtmcfldcpmjdfbaaGreatDoorMg41
import Derived.Carry
import Derived.Deep.RegionHeld3
namespace Go.Proofs.YtmcfldcpmjdfbaaGreatDoor
open Go.RowKit Go.Sort

set_option maxRecDepth 1000000 in
set_option maxHeartbeats 1000000 in
theorem gwithin_ok {w : World} {v : Value} {L : List Int} (q : Int) (hr : ReadsO [] w v (L.map (.int .i64))) (hL : L.length ≤ 1000000) (hall : ∀ x ∈ L, 2 ≤ x ∧ x < q) :
    Calls Tryz.prog 33 #[v, .int .i64 q] w fun e w' => e = .returned (.bool true) ∧ w = w' := by
  obtain ⟨A, c, rfl, hc⟩ := hr
  rw [List.length_map] at *
  rcases Nat.eq_zero_or_pos L.length with h0 | h0
  · rw [h0] at *
    clear hc
    go_enter Tryz.func33, Tryz.ntmps33
    go_wp2
    go_ret
    exact ⟨rfl, rfl⟩
  · obtain ⟨g, off, rfl, _, _, hcell⟩ := hc h0
    have hx0 := hall _ (List.getElem_mem h0)
    have hlast : L.length - 1 < L.length := by omega
    have hx1 := hall _ (List.getElem_mem hlast)
    have c0 := hcell 0 (.int .i64 L[0]) (by rw [List.getElem?_map, List.getElem?_eq_getElem h0]; rfl)
    have c1 := hcell (L.length - 1) (.int .i64 L[L.length - 1]) (by rw [List.getElem?_map, List.getElem?_eq_getElem hlast]; rfl)
    rw [Nat.add_zero] at c0
    generalize L[0] = x at *
    generalize L[L.length - 1] = y at *
    generalize L.length = n at *
    obtain ⟨m, rfl⟩ : ∃ m, n = m + 1 := ⟨n - 1, by omega⟩
    rw [Nat.add_sub_cancel] at c1
    have hm : decide (((m + 1 : Nat) : Int) = 0) = false := by simp; omega
    have hm2 : (((m + 1 : Nat) : Int) == 0) = false := by simp; omega
    have hs : IntKind.i64.wrap (((m + 1 : Nat) : Int) - 1) = m := by rw [IntWalk.i64_in _ (by omega)]; omega
    have d0 : decide (2 ≤ x) = true := by simpa using hx0.1
    have d1 : decide (y < q) = true := by simpa using hx1.2
    clear hall hcell hc hx0 hx1 hlast
    go_enter Tryz.func33, Tryz.ntmps33
    go_wp2
    go_ret
    exact ⟨rfl, rfl⟩

/-- A pager that begins. -/
def newPg (d : DevS) (l : List Int) (sq : Int) (m : List Due) (k : List Int) (pages txn : Int) : PgS := { dev := d, l := l, sq := sq, m := m, k := k, spare := [], there := pages, pages := pages, txn := txn, n := 0, H := fun _ => noChg }

set_option maxRecDepth 1000000 in
set_option maxHeartbeats 2000000 in
theorem gnew_ok {w : World} {pd pf : Nat} {d : DevS} {FD FF : List Nat} {l k : List Int} {sq : Int} {m : List Due} (pages txn : Int) (hd : DevAt w pd d FD) (hf : FreeIs pf w FF l sq m k) (hap : ∀ x ∈ FD, x ∉ FF) (h2 : 2 ≤ pages) (hlen : pages ≤ d.pages.length) (ht : 1 ≤ txn)
    (hall : ∀ x ∈ l ++ whats m, 2 ≤ x ∧ x < pages) (hfew : l.length + m.length ≤ 1000000) :
    Calls Tryz.prog 7 #[.pointer (some ⟨pd, 0, none⟩), .pointer (some ⟨pf, 0, none⟩), .int .i64 pages, .int .i64 txn] w fun e w' => ∃ p b F', e = .returned (.tuple #[.pointer (some ⟨p, 0, none⟩), .int .i64 0]) ∧
      PgIs p pd pf b (newPg d l sq m k pages txn) F' w' ∧ (∀ x ∈ F', x ∈ FD ∨ x ∈ FF ∨ w.heap.size ≤ x) ∧ Below w.heap.size w w' := by
  have hle := dvlen_any pd d FD w hd
  have hal := fall_any hf hfew
  have hrm := @run_makeMap Tryz.prog
  have e1 : decide (pages < 2) = false := by simpa using h2
  have e2 : decide ((d.pages.length : Int) < pages) = false := by simpa using hlen
  have e3 : decide (txn < 1) = false := by simpa using ht
  have hper : ((l ++ whats m).mergeSort leInt).length = l.length + m.length := by rw [List.length_mergeSort]; simp [whats]
  have hall2 : ∀ x ∈ (l ++ whats m).mergeSort leInt, 2 ≤ x ∧ x < pages := fun x hx => hall x ((List.mergeSort_perm _ _).mem_iff.1 hx)
  have HX := Lib.hid (And.intro hd (And.intro hf hap))
  have HP := Lib.hid (And.intro hper hall2)
  have HF := Lib.hid hfew
  generalize (d.pages.length : Int) = ln at *
  clear hd hf hap h2 hlen ht hall hfew hper hall2
  go_enter Tryz.func7, Tryz.ntmps7
  go_wp2_with fail
  refine hle.mono ?_
  rintro e w' ⟨rfl, rfl⟩
  go_wp2_with fail
  refine hal.mono ?_
  rintro e w1 ⟨v', rfl, hr, hb⟩
  rw [← HP.out.1] at hr
  have hro := row_readsO (F := []) hr (by simp)
  have hwi := gwithin_ok pages hro (by rw [HP.out.1]; exact HF.out) HP.out.2
  have HB := Lib.hid hb
  clear hle hal hr hb hro
  go_wp2_with fail
  refine hwi.mono ?_
  rintro e w' ⟨rfl, rfl⟩
  clear hwi
  go_wp2_with fail
  go_ret2
  obtain ⟨hd, hf, hap⟩ := HX.out
  have hb := HB.out
  have hb2 : Below w1.heap.size w1 (w1.alloc (.map #[] 0)) := alloc_below _
  have hb3 : Below (w1.alloc (.map #[] 0)).heap.size (w1.alloc (.map #[] 0)) ((w1.alloc (.map #[] 0)).alloc (.cells (pgCells pd pf w1.heap.size (.slice none 0 0) pages pages txn) 45)) := alloc_below _
  have hbb : Below w.heap.size w ((w1.alloc (.map #[] 0)).alloc (.cells (pgCells pd pf w1.heap.size (.slice none 0 0) pages pages txn) 45)) := (hb.trans (hb2.mono hb.size)).trans (hb3.mono (by simp; have := hb.size; omega))
  have hp := Has.made (w1.alloc (.map #[] 0)) 45 (pgCells pd pf w1.heap.size (.slice none 0 0) pages pages txn)
  have hsz : (w1.alloc (.map #[] 0)).heap.size = w1.heap.size + 1 := by simp
  rw [hsz] at hp
  have hh : HereIs ((w1.alloc (.map #[] 0)).alloc (.cells (pgCells pd pf w1.heap.size (.slice none 0 0) pages pages txn) 45)) w1.heap.size 0 (fun _ => noChg) := (HereIs.made w1).kept (G := []) (Kept.of_below hb3) (by simp)
  have hd2 := hd.kept (G := []) (Kept.of_below hbb) (by simp)
  have hf2 := hf.below hbb
  have hdl := hd.lt
  have hfl := hf.lt
  have hs1 := hb.size
  refine ⟨w1.heap.size + 1, w1.heap.size, _, rfl, ⟨.slice none 0 0, FD, FF, hp, NRow.nil _ _, hh, hd2, hf2, by omega, by simp [Value.ownBlock], fun x hx => ?_, hap, rfl⟩, fun x hx => ?_, hbb⟩
  · have hx2 : x = w1.heap.size + 1 ∨ x = w1.heap.size := by simpa [pgOwn, Value.ownBlock] using hx
    exact ⟨fun h => by have := hdl x h; omega, fun h => by have := hfl x h; omega⟩
  · rcases List.mem_append.1 hx with hx | hx
    · have hx2 : x = w1.heap.size + 1 ∨ x = w1.heap.size := by simpa [pgOwn, Value.ownBlock] using hx
      exact .inr (.inr (by omega))
    · exact (List.mem_append.1 hx).imp id .inl
end Go.Proofs.YtmcfldcpmjdfbaaGreatDoor

namespace Go.Proofs.YtmcfldcpmjdfbaaGreatDoor
open Go.RowKit Go.Sort

theorem ReadsO.at {F : List Nat} {w : World} {v : Value} {l : List Int} (h : ReadsO F w v (l.map (.int .i64))) (j : Nat) (hj : j < l.length) : ∃ b off c, v = .slice (some ⟨b, off, none⟩) l.length c ∧ w.cell? ⟨b, off + j, none⟩ = some (.int .i64 l[j]) := by
  obtain ⟨A, c, rfl, h⟩ := h
  obtain ⟨b, off, rfl, _, _, hc⟩ := h (by simp; omega)
  exact ⟨b, off, c, by simp, hc j _ (by rw [List.getElem?_map, List.getElem?_eq_getElem hj]; rfl)⟩
theorem ReadsO.form {F : List Nat} {w : World} {v : Value} {l : List Int} (h : ReadsO F w v (l.map (.int .i64))) : ∃ A c, v = .slice A l.length c := by
  obtain ⟨A, c, rfl, h⟩ := h
  exact ⟨A, c, by simp⟩

section
variable {p pd pf b : Nat} {s : PgS} {F : List Nat} {w : World}

/-- Of rising numbers those that are less. -/
def lessOf (q : Int) (L : List Int) : List Int := L.filter fun x => decide (x < q)
theorem lessOf_snoc (q : Int) (L : List Int) (x : Int) : lessOf q (L ++ [x]) = lessOf q L ++ (if x < q then [x] else []) := by
  unfold lessOf
  rw [List.filter_append]
  by_cases h : x < q <;> simp [h]

set_option maxRecDepth 1000000 in
set_option maxHeartbeats 4000000 in
theorem gundo_any (hn : s.n ≤ 100000) (hl : s.l.length ≤ 100000) (h : PgIs p pd pf b s F w) :
    Calls Tryz.prog 10 #[.pointer (some ⟨p, 0, none⟩)] w fun e w' => e = .returned (.tuple #[]) ∧ ∃ F' L l', Fated s.H 1 L ∧ l'.Perm (lessOf s.there L ++ s.l) ∧
      PgIs p pd pf b { s with l := l', there := s.there, pages := s.there, spare := [], n := 0, H := fun _ => noChg } F' w' ∧ Goes F w F' w' := by
  have hmd := gmade_any (by omega) h
  obtain ⟨v, hpc⟩ := h.cells
  have hn0 := gnone_at p pd w (pg_cells hpc).1
  have HX := Lib.hid h
  have HL := Lib.hid (And.intro hn hl)
  clear h hpc hn hl
  obtain ⟨q, hq⟩ : ∃ q, s.there = q := ⟨_, rfl⟩
  rw [hq]
  have HQ := Lib.hid hq
  clear hq
  go_enter Tryz.func10, Tryz.ntmps10
  go_wp2_with (go_at_call 34; refine hn0.mono ?_; rintro e w' ⟨rfl, rfl⟩)
  refine hmd.mono ?_
  rintro e w1 ⟨v1, L, rfl, hr, hfat, hLn, hb⟩
  have hro : ReadsO F w1 v1 (L.map (.int .i64)) := row_readsO hr (fun g hg hF => by have := (hr.lt g hg).1; have := HX.out.lt g hF; omega)
  have hst : PgIs p pd pf b { s with l := s.l } F w1 ∧ Goes F w F w1 := ⟨HX.out.below hb, goes_below hb⟩
  obtain ⟨A, c, rfl⟩ := hro.form
  obtain ⟨N, hN⟩ : ∃ N, L.length = N := ⟨_, rfl⟩
  have HS := Lib.hid (And.intro hro hst)
  have HF := Lib.hid (And.intro hfat (And.intro hLn hN))
  rw [hN]
  have hNb : N ≤ 100000 := by have := HL.out.1; omega
  clear hmd hn0 hr hro hst hfat hLn hb hN
  go_wp2_with fail
  go_loopg [9] N (fun g iv wr => ∃ (j : Nat) (Fj : List Nat) (lj : List Int), iv = .int .i64 j ∧ j + g = N ∧ lj.Perm (lessOf q (L.take j) ++ s.l) ∧ PgIs p pd pf b { s with l := lj } Fj wr ∧ Goes F w Fj wr ∧ ReadsO Fj wr (.slice A L.length c) (L.map (.int .i64)))
  case atStart =>
    obtain ⟨h1, h2, h3⟩ := HS.out
    exact ⟨0, F, s.l, rfl, by omega, by simp [lessOf], h2, h3, h1⟩
  case round =>
    clear HS HX
    obtain ⟨j, Fj, lj, rfl, hjg, hpm, hp, hg, hro⟩ := hrel
    have hlen : lj.length ≤ 200000 := by
      have h1 := hpm.length_eq
      have h2 : (lessOf q (L.take j)).length ≤ (L.take j).length := List.length_filter_le _ _
      have := HF.out.2.1
      have := HL.out
      simp at h1 h2
      omega
    obtain ⟨v, hpc⟩ := hp.cells
    obtain ⟨c0, c1, c6, -, -, -⟩ := pg_cells hpc
    simp only [HQ.out] at c6
    by_cases hlt : j < N
    · have hjl : j < L.length := by rw [HF.out.2.2]; exact hlt
      obtain ⟨b0, off, c', hv, hck⟩ := hro.at j hjl
      simp only [Value.slice.injEq] at hv
      obtain ⟨rfl, _, rfl⟩ := hv
      have htk : lessOf q (L.take (j + 1)) = lessOf q (L.take j) ++ (if L[j] < q then [L[j]] else []) := by rw [take_snoc1 L j hjl, lessOf_snoc]
      generalize L[j] = x at *
      have hj1 : (j : Int) < N := by omega
      by_cases hxq : x < q
      · have hd : decide (x < q) = true := by simpa using hxq
        rw [if_pos hxq] at htk
        have hbk := pback_one (s := { s with l := lj }) x hp (by show lj.length < 1000000; omega)
        have HR := Lib.hid (And.intro hpm (And.intro hg (And.intro hro htk)))
        clear hpm hp hg hro htk hxq hjl hpc
        go_wp2_with fail
        refine hbk.mono ?_
        rintro e w2 ⟨rfl, F2, hp2, hg2⟩
        have H2 := Lib.hid (And.intro hp2 hg2)
        clear hbk hp2 hg2 c0 c1 c6 hck
        go_wp2_with fail
        go_roundg (N - (j + 1))
        case measure => omega
        case rel =>
          obtain ⟨hpm, hg, hro, htk⟩ := HR.out
          refine ⟨j + 1, F2, x :: lj, by go_num, by omega, ?_, H2.out.1, hg.trans H2.out.2, hro.goes H2.out.2⟩
          rw [htk, List.append_assoc]
          exact (hpm.cons x).trans List.perm_middle.symm
      · have hd : decide (x < q) = false := by simpa using hxq
        rw [if_neg hxq, List.append_nil] at htk
        have HR := Lib.hid (And.intro hpm (And.intro hg (And.intro hro (And.intro htk hp))))
        clear hpm hp hg hro htk hxq hjl hpc
        go_wp2_with fail
        go_roundg (N - (j + 1))
        case measure => omega
        case rel =>
          obtain ⟨hpm, hg, hro, htk, hp⟩ := HR.out
          refine ⟨j + 1, Fj, lj, by go_num, by omega, ?_, hp, hg, hro⟩
          rw [htk]
          exact hpm
    · obtain rfl : j = N := by omega
      have hfull : L.take j = L := List.take_of_length_le (by rw [HF.out.2.2]; exact Nat.le_refl _)
      rw [hfull] at hpm
      have hbg := gbegin_any (s := { s with l := lj }) q hp
      have HR := Lib.hid (And.intro hpm hg)
      clear hpm hp hg hro hfull hpc hlt hlen hjg
      go_wp2_with fail
      refine hbg.mono ?_
      rintro e w2 ⟨rfl, F2, hp2, hg2⟩
      have H2 := Lib.hid (And.intro hp2 hg2)
      clear hbg hp2 hg2 c0 c1 c6
      go_wp2_with fail
      go_end0
      exact ⟨rfl, F2, L, lj, HF.out.1, HR.out.1, H2.out.1, HR.out.2.trans H2.out.2⟩
end
end Go.Proofs.YtmcfldcpmjdfbaaGreatDoor

namespace Go.Proofs.YtmcfldcpmjdfbaaGreatDoor
open Go.RowKit Go.Sort Go.Lib

/-- A device to which pages were written, one behind the other. -/
def wroteL (H : Int → Chg) (d : DevS) (L : List Int) : DevS := L.foldl (fun d x => wroteS d x (sealC x (H x))) d
theorem wroteL_snoc (H : Int → Chg) (d : DevS) (L : List Int) (x : Int) : wroteL H d (L ++ [x]) = wroteS (wroteL H d L) x (sealC x (H x)) := by simp [wroteL]

/-- What of a device is little enough. -/
structure FewD (d : DevS) (n : Nat) : Prop where
  idle : Idle d
  line : d.line.length ≤ n
  cap : d.cap ≤ 16 + 2 * n

theorem roomed_le {l : List (Int × ByteArray)} {c n : Nat} (h1 : l.length ≤ n) (h2 : c ≤ 16 + 2 * n) : roomed l c ≤ 16 + 2 * (n + 1) := by
  unfold roomed
  split <;> omega
theorem FewD.wrote {d : DevS} {n : Nat} (h : FewD d n) (x : Int) (b : ByteArray) : FewD (wroteS d x b) (n + 1) :=
  ⟨⟨h.idle.on, h.idle.fuse⟩, by simp [wroteS]; exact h.line, roomed_le h.line h.cap⟩
theorem wrote_len (d : DevS) (x : Int) (b : ByteArray) : (wroteS d x b).pages.length = d.pages.length := by simp [wroteS]

theorem wroteL_few (H : Int → Chg) : ∀ (L : List Int) {d : DevS} {n : Nat} (_ : FewD d n), FewD (wroteL H d L) (n + L.length) ∧ (wroteL H d L).pages.length = d.pages.length ∧ ∀ i : Nat, (i : Int) ∉ L → (∀ x ∈ L, 0 ≤ x) → (wroteL H d L).pages[i]? = d.pages[i]?
  | [], _, _, h => ⟨h, rfl, fun _ _ _ => rfl⟩
  | x :: L, d, n, h => by
    obtain ⟨h1, h2, h3⟩ := wroteL_few H L (h.wrote x (sealC x (H x)))
    refine ⟨by rw [List.length_cons, show n + (L.length + 1) = n + 1 + L.length by omega]; exact h1, h2.trans (wrote_len _ _ _), fun i hi hp => (h3 i (fun hh => hi (by simp [hh])) (fun y hy => hp y (by simp [hy]))).trans ?_⟩
    have hx : x.toNat ≠ i := fun e => hi (by have := hp x (by simp); simp; left; omega)
    simp only [wroteS]
    rw [List.getElem?_set_ne hx]

/-- What is asked of all that was made, that it may be written. -/
structure MadeOK (s : PgS) : Prop where
  ints : ∀ x, (s.H x).fate = 1 → IsInt (s.H x).kind ∧ IsInt (s.H x).next
  sealed : ∀ x, (s.H x).fate = 1 → sealE x (s.H x).kind (s.H x).next (s.H x).body.size = 0
  place : ∀ x, (s.H x).fate = 1 → 2 ≤ x ∧ x < s.pages
  len : s.pages ≤ s.dev.pages.length

theorem seal_small {id kind next : Int} {n : Nat} (h : sealE id kind next n = 0) : n ≤ 240 := by
  unfold sealE at h
  split at h
  · split at h
    · assumption
    · cases h
  · cases h
theorem seal_size {x : Int} {c : Chg} (h : sealE x c.kind c.next c.body.size = 0) : (sealC x c).size = 256 := by
  have hs := seal_small h
  have hl : c.body.data.toList.length = c.body.size := by simp
  unfold sealE at h
  split at h
  · rename_i ho
    show (sealB x c.kind c.next c.body.data.toList).toArray.size = 256
    rw [List.size_toArray]
    unfold sealB
    rw [if_pos ⟨ho, by rw [hl]; exact hs⟩]
    exact pageB_len (by rw [hl]; exact hs)
  · cases h

section
variable {p pd pf b : Nat} {s : PgS} {F : List Nat} {w : World}

set_option maxRecDepth 1000000 in
set_option maxHeartbeats 4000000 in
theorem gflush_any {k0 sq0 : Nat} (hn : s.n ≤ 100000) (hl : s.l.length + s.spare.length ≤ 1000000) (hsq : s.sq = sq0) (hq0 : sq0 ≤ 100000) (hml : s.m.length ≤ 100000) (hfd : FewD s.dev k0) (hk0 : k0 ≤ 100000) (hmo : MadeOK s) (h : PgIs p pd pf b s F w) :
    Calls Tryz.prog 14 #[.pointer (some ⟨p, 0, none⟩)] w fun e w' => e = .returned (.int .i64 0) ∧ ∃ F' L l' sq' m', Fated s.H 1 L ∧ L.length ≤ s.n ∧
      PgIs p pd pf b { s with dev := wroteL s.H s.dev L, l := l', sq := sq', m := m', there := s.pages, pages := s.pages, spare := [], n := 0, H := fun _ => noChg } F' w' ∧ Goes F w F' w' := by
  have hmd := gmade_any (by omega) h
  obtain ⟨v, hpc⟩ := h.cells
  have hn0 := gnone_at p pd w (pg_cells hpc).1
  have HX := Lib.hid h
  have HM := Lib.hid hmo
  have HN := Lib.hid (And.intro hn (And.intro hl (And.intro hsq (And.intro hq0 (And.intro hml (And.intro hfd hk0))))))
  clear h hpc hmo hn hl hsq hq0 hml hfd hk0
  go_enter Tryz.func14, Tryz.ntmps14
  go_wp2_with (go_at_call 34; refine hn0.mono ?_; rintro e w' ⟨rfl, rfl⟩)
  refine hmd.mono ?_
  rintro e w1 ⟨v1, L, rfl, hr, hfat, hLn, hb⟩
  have hro : ReadsO F w1 v1 (L.map (.int .i64)) := row_readsO hr (fun g hg hF => by have := (hr.lt g hg).1; have := HX.out.lt g hF; omega)
  have hst : PgIs p pd pf b { s with dev := wroteL s.H s.dev [] } F w1 ∧ Goes F w F w1 := ⟨HX.out.below hb, goes_below hb⟩
  obtain ⟨A, c, rfl⟩ := hro.form
  obtain ⟨N, hN⟩ : ∃ N, L.length = N := ⟨_, rfl⟩
  have hNb : N ≤ 100000 := by have := HN.out.1; omega
  have HS := Lib.hid (And.intro hro hst)
  have HF := Lib.hid (And.intro hfat (And.intro hLn hN))
  rw [hN]
  clear hmd hn0 hr hro hst hfat hLn hb hN
  go_wp2_with fail
  go_loopg [11] N (fun g iv wr => ∃ (j : Nat) (Fj : List Nat), iv = .int .i64 j ∧ j + g = N ∧ PgIs p pd pf b { s with dev := wroteL s.H s.dev (L.take j) } Fj wr ∧ Goes F w Fj wr ∧ ReadsO Fj wr (.slice A L.length c) (L.map (.int .i64)))
  case atStart =>
    obtain ⟨h1, h2, h3⟩ := HS.out
    exact ⟨0, F, rfl, by omega, h2, h3, h1⟩
  case round =>
    clear HS HX
    obtain ⟨j, Fj, rfl, hjg, hp, hg, hro⟩ := hrel
    by_cases hlt : j < N
    · have hjl : j < L.length := by rw [HF.out.2.2]; exact hlt
      obtain ⟨b0, off, c', hv, hck⟩ := hro.at j hjl
      simp only [Value.slice.injEq] at hv
      obtain ⟨rfl, _, rfl⟩ := hv
      have htk := take_snoc1 L j hjl
      have hmem : L[j] ∈ L := List.getElem_mem hjl
      have hfate := (HF.out.1.2.2 _).1 hmem
      have hix := HF.out.1.2.1 _ hmem
      generalize L[j] = x at *
      obtain ⟨m1, m2⟩ := HM.out.ints x hfate
      have m3 := HM.out.sealed x hfate
      have m4 := HM.out.place x hfate
      have m5 := HM.out.len
      have hfew := wroteL_few s.H (L.take j) HN.out.2.2.2.2.2.1
      have hcap : (wroteL s.H s.dev (L.take j)).cap ≤ 100000000000 := by
        have h1 := hfew.1.cap
        have h2 := HN.out.2.2.2.2.2.2
        have h3 : (L.take j).length ≤ j := by simp; omega
        omega
      have hwr := gwrite_any (s := { s with dev := wroteL s.H s.dev (L.take j) }) x hix m1 m2 (by have := seal_small m3; show (s.H x).body.size ≤ _; omega) m3 hcap hp
      obtain ⟨z1, z2, _⟩ := hfew.1.idle.write (n := x) (d := sealC x (s.H x)) (by omega) (by rw [hfew.2.1]; omega) (seal_size m3)
      simp only [z1, z2] at hwr
      rw [← wroteL_snoc, ← htk] at hwr
      have hj1 : (j : Int) < N := by omega
      have HR := Lib.hid (And.intro hg hro)
      clear hp hg hro htk hmem hfate hix m1 m2 m3 m4 m5 hfew hcap z1 z2 hjl
      go_wp2_with fail
      refine hwr.mono ?_
      rintro e w2 ⟨rfl, F2, hp2, hg2⟩
      have H2 := Lib.hid (And.intro hp2 hg2)
      clear hwr hp2 hg2 hck
      go_wp2_with fail
      go_roundg (N - (j + 1))
      case measure => omega
      case rel => exact ⟨j + 1, F2, by go_num, by omega, H2.out.1, HR.out.1.trans H2.out.2, HR.out.2.goes H2.out.2⟩
    · obtain rfl : j = N := by omega
      have hfull : L.take j = L := List.take_of_length_le (by rw [HF.out.2.2]; exact Nat.le_refl _)
      rw [hfull] at hp
      obtain ⟨v2, hpc⟩ := hp.cells
      have hd : decide ((j : Int) < (j : Int)) = false := by simp
      obtain ⟨c0, c1, -, c7, c8, -⟩ := pg_cells hpc
      have HP := Lib.hid (And.intro hp (And.intro hg hro))
      have hpd := hp.kept (G := []) ((Kept.refl [] wr).drew) (by simp)
      have hdr := gdropped_any (s := { s with dev := wroteL s.H s.dev L }) (by have := HN.out.1; show s.n ≤ 1000000; omega) hpd
      have k1 : wr.drew.cell? ⟨p, 1, none⟩ = some (.pointer (some ⟨pf, 0, none⟩)) := c1
      have k8 : wr.drew.cell? ⟨p, 8, none⟩ = some (.int .i64 s.txn) := c8
      have HPD := Lib.hid hpd
      clear hp hg hro hfull hpc hlt hjg hpd
      go_wp2_with fail
      clear c0 c1 c7 c8
      go_region_held3 (fun w' => w'.cell? ⟨p, 1, none⟩ = some (.pointer (some ⟨pf, 0, none⟩)) ∧ w'.cell? ⟨p, 8, none⟩ = some (.int .i64 s.txn)) (first | exact ⟨k1, k8⟩ | exact HK3.out | exact HK4.out) (first
        | (go_at_call 18; refine hdr.mono ?_; rintro e w3 ⟨v3, D, rfl, hr3, hf3, hD3, hb3⟩
           have hp3 := HPD.out.below hb3
           have hro3 : ReadsO Fj w3 v3 (D.map (.int .i64)) := row_readsO hr3 (fun g hg hF => by have h1 := (hr3.lt g hg).1; have h2 := HPD.out.lt g hF; omega)
           obtain ⟨v4, hpc3⟩ := hp3.cells
           have HK3 := Lib.hid (And.intro (pg_cells hpc3).2.1 (pg_cells hpc3).2.2.2.2.1)
           have hgv := pgive_any (s := { s with dev := wroteL s.H s.dev L }) s.txn hp3 HN.out.2.2.1 hro3 (by have h1 := HN.out.1; have h2 := HN.out.2.2.2.2.1; show D.length + s.m.length ≤ 1000000; omega) (by have h1 := HN.out.1; have h2 := HN.out.2.2.2.1; omega)
           have HB3 := Lib.hid (goes_below hb3 (G := Fj))
           clear hr3 hf3 hD3 hb3 hp3 hro3 hpc3)
        | (go_at_call 42; refine hgv.mono ?_; rintro e w4 ⟨rfl, F4, hp4, hg4⟩
           obtain ⟨v5, hpc4⟩ := hp4.cells
           have HK4 := Lib.hid (And.intro (pg_cells hpc4).2.1 (pg_cells hpc4).2.2.2.2.1)
           have HP4 := Lib.hid (And.intro hp4 hg4)
           clear hp4 hg4 hpc4))
      obtain ⟨hp4, hg4⟩ := HP4.out
      obtain ⟨v6, hpc6⟩ := hp4.cells
      have k1' : w4.drew.cell? ⟨p, 1, none⟩ = some (.pointer (some ⟨pf, 0, none⟩)) := (pg_cells hpc6).2.1
      have hpd4 := hp4.kept (G := []) ((Kept.refl [] w4).drew) (by simp)
      have hsp := gspare_any hpd4
      have HPD4 := Lib.hid hpd4
      have HG4 := Lib.hid ((HP.out.2.1.trans ⟨(Kept.refl Fj wr).drew, fun _ h => .inl h⟩).trans ((HB3.out.trans hg4).trans ⟨(Kept.refl F4 w4).drew, fun _ h => .inl h⟩))
      clear hp4 hg4 hpc6 hpd4 hdr k1 k8 hgv HPD HK3 HK4 HP4 HP HB3
      go_wp2_with fail
      go_region_held3 (fun w' => w'.cell? ⟨p, 1, none⟩ = some (.pointer (some ⟨pf, 0, none⟩))) (first | exact k1' | exact HK5.out | exact HK6.out) (first
        | (go_at_call 19; refine hsp.mono ?_; rintro e w5 ⟨v5, rfl, hr5, hb5⟩
           rw [show s.spare.length = (s.spare.mergeSort leInt).length from (List.length_mergeSort _).symm] at hr5
           have hp5 := HPD4.out.below hb5
           have hro5 : ReadsO F4 w5 v5 ((s.spare.mergeSort leInt).map (.int .i64)) := row_readsO hr5 (fun g hg hF => by have h1 := (hr5.lt g hg).1; have h2 := HPD4.out.lt g hF; omega)
           obtain ⟨v7, hpc5⟩ := hp5.cells
           have HK5 := Lib.hid (pg_cells hpc5).2.1
           have hbk := pback_any hp5 hro5 (by rw [List.length_mergeSort]; have h1 := HN.out.2.1; show s.spare.length + s.l.length ≤ 1000000; omega)
           have HB5 := Lib.hid (goes_below hb5 (G := F4))
           clear hr5 hb5 hp5 hro5 hpc5)
        | (go_at_call 26; refine hbk.mono ?_; rintro e w6 ⟨rfl, F6, hp6, hg6⟩
           obtain ⟨v8, hpc7⟩ := hp6.cells
           have HK6 := Lib.hid (pg_cells hpc7).2.1
           have k7 := (pg_cells hpc7).2.2.2.1
           have hbg := gbegin_any s.pages hp6
           have HG6 := Lib.hid (HG4.out.trans (HB5.out.trans hg6))
           clear hp6 hg6 hpc7))
      clear hbk hsp k1'
      go_wp2_with fail
      refine hbg.mono ?_
      rintro e w7 ⟨rfl, F7, hp7, hg7⟩
      have H7 := Lib.hid (And.intro hp7 (HG6.out.trans hg7))
      clear hbg hp7 hg7 k7
      go_wp2_with fail
      go_ret
      exact ⟨rfl, F7, L, _, _, _, HF.out.1, HF.out.2.1, H7.out.1, H7.out.2⟩
end
end Go.Proofs.YtmcfldcpmjdfbaaGreatDoor
