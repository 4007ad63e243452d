/-
  Walks: the waiting of all writes ends (settle).
-/
import Derived.Test.YtmcfldcpmjdfbaaGreatDoorMg19
import Derived.Test.YtmcfldcpmjdfbaaGreatDoorMg5
namespace Go.Proofs.YtmcfldcpmjdfbaaGreatDoor
open Go.RowKit Go.Lib

/-- A page of which sectors of a write stay. -/
def mixB (old d : ByteArray) (keep : Int) : ByteArray := ⟨(mixL old.data.toList d.data.toList keep).toArray⟩
theorem mixB_size {old d : ByteArray} {keep : Int} (h1 : old.size = 256) (h2 : d.size = 256) : (mixB old d keep).size = 256 := by
  show (mixL old.data.toList d.data.toList keep).toArray.size = 256
  rw [List.size_toArray, mixL_length (by rw [← h1]; rfl) (by rw [← h2]; rfl)]
/-- One write settles. -/
def settle1 (s : DevS) (n : Int) (d : ByteArray) (keep : Int) : DevS :=
  { s with pages := s.pages.set n.toNat (mixB (s.synced.getD n.toNat ByteArray.empty) d keep), synced := s.synced.set n.toNat (mixB (s.synced.getD n.toNat ByteArray.empty) d keep) }
/-- All writes settle, the first one with the i-th keep. -/
def settled (keep : Nat → Int) : Nat → List (Int × ByteArray) → DevS → DevS
  | _, [], s => { s with line := [] }
  | i, (n, d) :: r, s => settled keep (i + 1) r (settle1 s n d (keep i))

theorem settled_line (keep : Nat → Int) : ∀ (r : List (Int × ByteArray)) (i : Nat) (s : DevS) (l : List (Int × ByteArray)), settled keep i r { s with line := l } = settled keep i r s
  | [], _, _, _ => rfl
  | (n, d) :: r, i, s, l => by
    unfold settled
    exact settled_line keep r (i + 1) (settle1 s n d (keep i)) l
theorem DevAt.drewN {w : World} {p : Nat} {s : DevS} {F : List Nat} (h : DevAt w p s F) (n : Nat) : DevAt (w.drewN n) p s F := h.kept ((Kept.refl [] w).drewN n) (by simp)
theorem DevAt.drew {w : World} {p : Nat} {s : DevS} {F : List Nat} (h : DevAt w p s F) : DevAt w.drew p s F := h.kept ((Kept.refl [] w).drew) (by simp)

theorem row_free {w : World} {base : Nat} {e : TypeId} {g n c m : Nat} {xs : List Value} (h : w.ownsRow base e 1 (.slice (some ⟨g, 0, none⟩) n c) m xs) (j : Nat) : w.frozen? ⟨g, j, none⟩ = false := by
  rcases h.2 with ⟨e1, _⟩ | ⟨g', cap, cur, e1, _, hg, _⟩
  · cases e1
  · simp only [Value.slice.injEq, Option.some.injEq, Addr.mk.injEq, and_true] at e1
    obtain ⟨rfl, _⟩ := e1
    exact frozen_of_row w g j cur e hg

theorem settle1_ok {s : DevS} {n : Int} {d : ByteArray} {r : List (Int × ByteArray)} {k : Int} (h : DevOK s) (hl : s.line = (n, d) :: r) : DevOK { settle1 s n d k with line := r } := by
  obtain ⟨h0, h1, h2⟩ := h.line (n, d) (by rw [hl]; simp)
  simp only at h0 h1 h2
  have hk : n.toNat < s.synced.length := by rw [h.len]; omega
  have hs : (s.synced.getD n.toNat ByteArray.empty).size = 256 := by
    rw [List.getD, List.getElem?_eq_getElem hk]
    exact h.synced _ (List.getElem_mem hk)
  have hm := mixB_size (keep := k) hs h2
  refine ⟨h.most, h.fuse, by simp [settle1, h.len], by simp [settle1, h.few], fun x hx => ?_, fun x hx => ?_, fun x hx => ?_⟩
  · rcases List.mem_or_eq_of_mem_set hx with h3 | h3
    · exact h.pages x h3
    · rw [h3]; exact hm
  · rcases List.mem_or_eq_of_mem_set hx with h3 | h3
    · exact h.synced x h3
    · rw [h3]; exact hm
  · simp only [settle1, List.length_set]
    exact h.line x (by rw [hl]; exact List.mem_cons_of_mem _ hx)

/-- Where the settling stands: k writes wait still. -/
def Settling (keep : Nat → Int) (s : DevS) (w : World) (p : Nat) (F : List Nat) (k : Nat) (pl : Value) (wr : World) : Prop :=
  ∃ (i : Nat) (si : DevS), i + k = s.line.length ∧ si.line.length = k ∧ pl = .int .i64 i ∧ DevAt wr p si F ∧ Kept F w wr ∧ settled keep i si.line si = settled keep 0 s.line s

set_option maxRecDepth 1000000 in
set_option maxHeartbeats 800000 in
theorem settle_any (p : Nat) (s : DevS) (F : List Nat) (fid : FuncId) (free : Array Value) (keep : Nat → Int) (w : World) (h : DevAt w p s F) (hcap : s.line.length ≤ 100000000000) (hint : ∀ i, IsInt (keep i))
    (hent : ∀ args w, (callFunc fid args).run Tryz.prog w = .ok (.enter fid args) w)
    (hkeep : ∀ (i : Nat) (w' : World), i < s.line.length → Kept F w w' → Calls Tryz.prog fid (#[.int .i64 i] ++ free) w' fun e w2 => e = .returned (.int .i64 (keep i)) ∧ w' = w2) :
    Calls Tryz.prog 57 #[.pointer (some ⟨p, 0, none⟩), .func (.func fid) #[] free] w fun e w' => e = .returned (.tuple #[]) ∧ DevAt w' p (settled keep 0 s.line s) F ∧ Kept F w w' := by
  have H := Lib.hid h
  have HI := Lib.hid hint
  have HK := Lib.hid hkeep
  clear h hint hkeep
  go_enter Tryz.func57, Tryz.ntmps57
  go_wp2
  go_loopg [4] s.line.length (fun k pl wr => Settling keep s w p F k pl wr)
  case atStart => exact ⟨0, s, by omega, rfl, rfl, H.out, Kept.refl _ _, rfl⟩
  case round =>
    obtain ⟨i, si, hik, hlen, rfl, hd, hkw, hse⟩ := hrel
    obtain ⟨pv, sv, ch, hmem, hF⟩ := hd.mem_
    rcases hsl : si.line with _ | ⟨⟨n, d⟩, rest⟩
    · have hln := hmem.line
      rw [hsl] at hln
      have hfin : DevAt wr p (settled keep 0 s.line s) F := by
        rw [← hse, hsl]
        show DevAt wr p { si with line := [] } F
        have e : ({ si with line := [] } : DevS) = si := by rw [← hsl]
        rw [e]
        exact hd
      have HFIN := Lib.hid (And.intro hfin hkw)
      have hgl := hmem.line.has.inside
      have hT : Calls Tryz.prog 79 #[.pointer (some ⟨p, 5, none⟩)] wr fun e w' => e = .returned (.tuple #[.agg #[.int .i64 0, .string ByteArray.empty], .bool false]) ∧ Kept [] wr w' := by
        cases ch with
        | none => exact take_nil p 5 wr hgl (hmem.line.has.cell 5)
        | some c => exact take_empty p 106 _ 5 _ c wr hln
      clear hd hkw hse hmem hF hsl hlen hln hfin
      go_wp2_with fail
      refine hT.mono ?_
      rintro e w1 ⟨rfl, hk1⟩
      have HK1 := Lib.hid hk1
      clear hk1 hT
      go_wp2
      have hk2 : Kept [] wr (w1.alloc (.cells #[.int .i64 0, .string ByteArray.empty] 109)) := HK1.out.alloc _
      exact bodyPost_ret (results_none rfl _ _ _) rfl ⟨rfl, HFIN.out.1.kept hk2 (by simp), HFIN.out.2.trans (hk2.mono (by simp))⟩
    · obtain ⟨c, rfl⟩ : ∃ c, ch = some c := by
        cases ch with
        | none => have := (hmem.line.nil_ rfl).1; rw [hsl] at this; cases this
        | some c => exact ⟨c, rfl⟩
      have hln := hmem.line
      rw [hsl] at hln
      have hT := dvtake_some p 106 _ 5 n d rest _ c wr hln
      have HX := Lib.hid (And.intro hd (And.intro hkw (And.intro hse (And.intro hmem (And.intro hF (And.intro hsl hlen))))))
      clear hd hkw hse hmem hF hln hsl hlen
      go_wp2_with fail
      refine hT.mono ?_
      rintro e w1 ⟨rfl, hl1, hk1⟩
      go_wp2_with fail
      obtain ⟨hd, hkw, hse, hmem, hF, hsl, hlen⟩ := HX.out
      have hok := hd.ok
      obtain ⟨hn0, hn1, hds⟩ := hok.line (n, d) (by rw [hsl]; simp)
      simp only at hn0 hn1 hds
      obtain ⟨k, rfl⟩ : ∃ k : Nat, n = k := ⟨n.toNat, by omega⟩
      have hkl : k < si.pages.length := by omega
      have hks : k < si.synced.length := by rw [hok.len]; omega
      obtain ⟨n1, n2, n3⟩ := nodup_devBlocks.1 hmem.nodup
      have hm1 : DevMem w1 p { si with line := rest } pv sv (some c) :=
        ⟨hl1, row_kept hmem.rowp hk1 (fun g e => by simp; intro e2; subst e2; exact (n1 _ e).2.2 rfl), row_kept hmem.rows hk1 (fun g e => by simp; intro e2; subst e2; exact (n2 _ e).2 rfl), hmem.nodup⟩
      obtain ⟨A1, cc1, hpv, -, hcp⟩ := drow_form hm1.rowp
      obtain ⟨A2, cc2, hsv, -, hcs⟩ := drow_form hm1.rows
      obtain ⟨gp, hA, hcgp⟩ := hcp k _ (by rw [List.getElem?_map, List.getElem?_eq_getElem hkl]; rfl)
      obtain ⟨gs, hA', hcgs⟩ := hcs k _ (by rw [List.getElem?_map, List.getElem?_eq_getElem hks]; rfl)
      subst hA
      subst hA'
      subst hpv
      subst hsv
      have hk0 : Kept [] w1 (w1.alloc (.cells #[.int .i64 (k : Int), .string d] 109)) := (Kept.refl _ _).alloc _
      have hm0 : DevMem (w1.alloc (.cells #[.int .i64 (k : Int), .string d] 109)) p { si with line := rest } (.slice (some ⟨gp, 0, none⟩) si.pages.length cc1) (.slice (some ⟨gs, 0, none⟩) si.synced.length cc2) (some c) :=
        ⟨hm1.line.kept hk0 (by simp) (by simp), row_kept hm1.rowp hk0 (by simp), row_kept hm1.rows hk0 (by simp), hm1.nodup⟩
      have hb0 := Has.made w1 109 #[.int .i64 (k : Int), .string d]
      have hkW : Kept F w (w1.alloc (.cells #[.int .i64 (k : Int), .string d] 109)) := (hkw.trans (hk1.mono (by simp [hF, devBlocks]))).alloc _
      have hcgp0 := (hk0.cell (p := ⟨gp, k, none⟩) (World.block_lt_of_cell? w1 _ hcgp) (by simp)).trans hcgp
      have hcgs0 := (hk0.cell (p := ⟨gs, k, none⟩) (World.block_lt_of_cell? w1 _ hcgs) (by simp)).trans hcgs
      have hbw : w1.heap.size < (w1.alloc (.cells #[.int .i64 (k : Int), .string d] 109)).heap.size := by simp
      have hbp : gp < w1.heap.size := World.block_lt_of_cell? w1 _ hcgp
      have hbs : gs < w1.heap.size := World.block_lt_of_cell? w1 _ hcgs
      have hpp := hl1.has.inside
      generalize w1.alloc (.cells #[.int .i64 (k : Int), .string d] 109) = W0 at *
      generalize w1.heap.size = b at *
      have c3 : W0.cell? ⟨p, 3, none⟩ = some (.slice (some ⟨gp, 0, none⟩) si.pages.length cc1) := hm0.line.has.cell 3
      have c4 : W0.cell? ⟨p, 4, none⟩ = some (.slice (some ⟨gs, 0, none⟩) si.synced.length cc2) := hm0.line.has.cell 4
      have b0 := hb0.cell 0
      have b1 := hb0.cell 1
      simp at b0 b1
      have fgs := World.ownsRow.frozenAt hm0.rows k
      have hold : (si.synced[k]).size = 256 := hok.synced _ (List.getElem_mem hks)
      have hki : IsInt (keep i) := HI.out i
      have hgk : 0 < gk := by rw [← hlen, hsl]; simp
      have hkp := HK.out i W0.drew (by omega) hkW.drew
      have hmx := fun W => mixed_any (si.synced[k]) d (keep i) W hki hold hds
      have hgs : gs < W0.heap.size := by omega
      have hpw : p < W0.heap.size := by omega
      have hNs : (k : Int) < (si.synced.length : Int) := by omega
      have hNp : (k : Int) < (si.pages.length : Int) := by omega
      have hkn : gs ≠ p := (n2 gs rfl).1
      have hdef : si.synced.getD k ByteArray.empty = si.synced[k] := by rw [List.getD, List.getElem?_eq_getElem hks]; rfl
      have HZ := Lib.hid (And.intro hd (And.intro hkw (And.intro hse (And.intro hF (And.intro hsl (And.intro hlen (And.intro hm0 (And.intro hkW (And.intro hdef hok)))))))))
      have HBB := Lib.hid hb0
      have HKP := Lib.hid hkp
      have HMX := Lib.hid hmx
      have HNN := Lib.hid (And.intro n1 (And.intro n2 n3))
      clear hd hkw hse hF hsl hlen hm0 hkW hdef hok hb0 hkp hmx hki hmem hl1 hk1 hm1 hcp hcs hcgp hk0 n1 n2 n3 hold hds hn0 hn1 HX hT
      generalize si.synced[k] = old at *
      generalize si.pages[k] = oldp at *
      clear hcgs
      generalize hNse : si.synced.length = Ns at *
      generalize hNpe : si.pages.length = Np at *
      have HNE := Lib.hid (And.intro hNse hNpe)
      generalize hkie : keep i = ki at *
      have HKI := Lib.hid hkie
      clear hNse hNpe hkie
      have hS0 : W0.drew.cell? ⟨p, 4, none⟩ = some (.slice (some ⟨gs, 0, none⟩) Ns cc2) ∧ W0.drew.cell? ⟨b, 0, none⟩ = some (.int .i64 (k : Int)) ∧ W0.drew.cell? ⟨b, 1, none⟩ = some (.string d) ∧ W0.drew.cell? ⟨gs, k, none⟩ = some (.string old) := ⟨c4, b0, b1, hcgs0⟩
      refine wp_region_till (fun w' => w'.cell? ⟨p, 4, none⟩ = some (.slice (some ⟨gs, 0, none⟩) Ns cc2) ∧ w'.cell? ⟨b, 0, none⟩ = some (.int .i64 (k : Int)) ∧ w'.cell? ⟨b, 1, none⟩ = some (.string d) ∧ w'.cell? ⟨gs, k, none⟩ = some (.string old)) 21 (by kernel_rfl) ?_
      refine anyTill_takeAt 18 (i := 0) (v := .pointer (some ⟨p, 0, none⟩)) rfl rfl (by kernel_rfl) (by kernel_rfl) (by kernel_rfl) (by kernel_rfl) (fun _ _ _ h => h) (Or.inl ⟨by rfl, fun w' hw' => by obtain ⟨q1, q2, q3, q4⟩ := hw'; go_simp⟩) hS0 ?_
      simp only [List.setIfInBounds_toArray, List.set_cons_zero, List.set_cons_succ]
      refine anyTill_takeAt 19 (i := 1) (v := .pointer (some ⟨p, 0, none⟩)) rfl rfl (by kernel_rfl) (by kernel_rfl) (by kernel_rfl) (by kernel_rfl) (fun _ _ _ h => h) (Or.inl ⟨by rfl, fun w' hw' => by obtain ⟨q1, q2, q3, q4⟩ := hw'; go_simp⟩) hS0 ?_
      simp only [List.setIfInBounds_toArray, List.set_cons_zero, List.set_cons_succ]
      refine anyTill_takeAt 20 (i := 2) (v := .pointer (some ⟨p, 4, none⟩)) rfl rfl (by kernel_rfl) (by kernel_rfl) (by kernel_rfl) (by kernel_rfl) (fun _ _ _ h => h) (Or.inl ⟨by rfl, fun w' hw' => by obtain ⟨q1, q2, q3, q4⟩ := hw'; go_simp⟩) hS0 ?_
      simp only [List.setIfInBounds_toArray, List.set_cons_zero, List.set_cons_succ]
      refine anyTill_takeAt 21 (i := 3) (v := .slice (some ⟨gs, 0, none⟩) Ns cc2) rfl rfl (by kernel_rfl) (by kernel_rfl) (by kernel_rfl) (by kernel_rfl) (fun _ _ _ h => h) (Or.inl ⟨by rfl, fun w' hw' => by obtain ⟨q1, q2, q3, q4⟩ := hw'; go_simp⟩) hS0 ?_
      simp only [List.setIfInBounds_toArray, List.set_cons_zero, List.set_cons_succ]
      refine anyTill_takeAt 22 (i := 4) (v := .pointer (some ⟨b, 0, none⟩)) rfl rfl (by kernel_rfl) (by kernel_rfl) (by kernel_rfl) (by kernel_rfl) (fun _ _ _ h => h) (Or.inl ⟨by rfl, fun w' hw' => by obtain ⟨q1, q2, q3, q4⟩ := hw'; go_simp⟩) hS0 ?_
      simp only [List.setIfInBounds_toArray, List.set_cons_zero, List.set_cons_succ]
      refine anyTill_takeAt 23 (i := 5) (v := .int .i64 (k : Int)) rfl rfl (by kernel_rfl) (by kernel_rfl) (by kernel_rfl) (by kernel_rfl) (fun _ _ _ h => h) (Or.inl ⟨by rfl, fun w' hw' => by obtain ⟨q1, q2, q3, q4⟩ := hw'; go_simp⟩) hS0 ?_
      simp only [List.setIfInBounds_toArray, List.set_cons_zero, List.set_cons_succ]
      refine anyTill_takeAt 24 (i := 6) (v := .pointer (some ⟨p, 0, none⟩)) rfl rfl (by kernel_rfl) (by kernel_rfl) (by kernel_rfl) (by kernel_rfl) (fun _ _ _ h => h) (Or.inl ⟨by rfl, fun w' hw' => by obtain ⟨q1, q2, q3, q4⟩ := hw'; go_simp⟩) hS0 ?_
      simp only [List.setIfInBounds_toArray, List.set_cons_zero, List.set_cons_succ]
      refine anyTill_takeAt 25 (i := 7) (v := .pointer (some ⟨p, 0, none⟩)) rfl rfl (by kernel_rfl) (by kernel_rfl) (by kernel_rfl) (by kernel_rfl) (fun _ _ _ h => h) (Or.inl ⟨by rfl, fun w' hw' => by obtain ⟨q1, q2, q3, q4⟩ := hw'; go_simp⟩) hS0 ?_
      simp only [List.setIfInBounds_toArray, List.set_cons_zero, List.set_cons_succ]
      refine anyTill_takeAt 26 (i := 8) (v := .pointer (some ⟨p, 4, none⟩)) rfl rfl (by kernel_rfl) (by kernel_rfl) (by kernel_rfl) (by kernel_rfl) (fun _ _ _ h => h) (Or.inl ⟨by rfl, fun w' hw' => by obtain ⟨q1, q2, q3, q4⟩ := hw'; go_simp⟩) hS0 ?_
      simp only [List.setIfInBounds_toArray, List.set_cons_zero, List.set_cons_succ]
      refine anyTill_takeAt 27 (i := 9) (v := .slice (some ⟨gs, 0, none⟩) Ns cc2) rfl rfl (by kernel_rfl) (by kernel_rfl) (by kernel_rfl) (by kernel_rfl) (fun _ _ _ h => h) (Or.inl ⟨by rfl, fun w' hw' => by obtain ⟨q1, q2, q3, q4⟩ := hw'; go_simp⟩) hS0 ?_
      simp only [List.setIfInBounds_toArray, List.set_cons_zero, List.set_cons_succ]
      refine anyTill_takeAt 28 (i := 10) (v := .pointer (some ⟨b, 0, none⟩)) rfl rfl (by kernel_rfl) (by kernel_rfl) (by kernel_rfl) (by kernel_rfl) (fun _ _ _ h => h) (Or.inl ⟨by rfl, fun w' hw' => by obtain ⟨q1, q2, q3, q4⟩ := hw'; go_simp⟩) hS0 ?_
      simp only [List.setIfInBounds_toArray, List.set_cons_zero, List.set_cons_succ]
      refine anyTill_takeAt 29 (i := 11) (v := .int .i64 (k : Int)) rfl rfl (by kernel_rfl) (by kernel_rfl) (by kernel_rfl) (by kernel_rfl) (fun _ _ _ h => h) (Or.inl ⟨by rfl, fun w' hw' => by obtain ⟨q1, q2, q3, q4⟩ := hw'; go_simp⟩) hS0 ?_
      simp only [List.setIfInBounds_toArray, List.set_cons_zero, List.set_cons_succ]
      refine anyTill_takeAt 30 (i := 12) (v := .pointer (some ⟨gs, k, none⟩)) rfl rfl (by kernel_rfl) (by kernel_rfl) (by kernel_rfl) (by kernel_rfl) (fun _ _ _ h => h) (Or.inl ⟨by rfl, fun w' hw' => by obtain ⟨q1, q2, q3, q4⟩ := hw'; go_simp⟩) hS0 ?_
      simp only [List.setIfInBounds_toArray, List.set_cons_zero, List.set_cons_succ]
      refine anyTill_takeAt 31 (i := 13) (v := .string old) rfl rfl (by kernel_rfl) (by kernel_rfl) (by kernel_rfl) (by kernel_rfl) (fun _ _ _ h => h) (Or.inl ⟨by rfl, fun w' hw' => by obtain ⟨q1, q2, q3, q4⟩ := hw'; go_simp⟩) hS0 ?_
      simp only [List.setIfInBounds_toArray, List.set_cons_zero, List.set_cons_succ]
      refine anyTill_takeAt 32 (i := 14) (v := .pointer (some ⟨b, 1, none⟩)) rfl rfl (by kernel_rfl) (by kernel_rfl) (by kernel_rfl) (by kernel_rfl) (fun _ _ _ h => h) (Or.inl ⟨by rfl, fun w' hw' => by obtain ⟨q1, q2, q3, q4⟩ := hw'; go_simp⟩) hS0 ?_
      simp only [List.setIfInBounds_toArray, List.set_cons_zero, List.set_cons_succ]
      refine anyTill_takeAt 33 (i := 15) (v := .string d) rfl rfl (by kernel_rfl) (by kernel_rfl) (by kernel_rfl) (by kernel_rfl) (fun _ _ _ h => h) (Or.inl ⟨by rfl, fun w' hw' => by obtain ⟨q1, q2, q3, q4⟩ := hw'; go_simp⟩) hS0 ?_
      simp only [List.setIfInBounds_toArray, List.set_cons_zero, List.set_cons_succ]
      refine anyTill_takeAt 34 (i := 16) (v := .func (.func fid) #[] free) rfl rfl (by kernel_rfl) (by kernel_rfl) (by kernel_rfl) (by kernel_rfl) (fun _ _ _ h => h) (Or.inl ⟨by rfl, fun w' hw' => by obtain ⟨q1, q2, q3, q4⟩ := hw'; go_simp⟩) hS0 ?_
      simp only [List.setIfInBounds_toArray, List.set_cons_zero, List.set_cons_succ]
      refine anyTill_takeAt 35 (i := 17) (v := .int .i64 (i : Int)) rfl rfl (by kernel_rfl) (by kernel_rfl) (by kernel_rfl) (by kernel_rfl) (fun _ _ _ h => h) (Or.inl ⟨by rfl, fun w' hw' => by obtain ⟨q1, q2, q3, q4⟩ := hw'; go_simp⟩) hS0 ?_
      simp only [List.setIfInBounds_toArray, List.set_cons_zero, List.set_cons_succ]
      refine anyTill_one (i := 18) (by kernel_rfl) rfl rfl (fun K hK => ?_)
      go_simp
      refine HKP.out.mono ?_
      rintro e w' ⟨rfl, rfl⟩
      refine hK _ _ ⟨fun _ => hS0, ?_⟩
      clear hK K
      refine anyTill_one (i := 19) (by kernel_rfl) rfl rfl (fun K hK => ?_)
      go_simp
      refine (HMX.out _).mono ?_
      rintro e w5 ⟨rfl, hb5⟩
      have hS5 : w5.cell? ⟨p, 4, none⟩ = some (.slice (some ⟨gs, 0, none⟩) Ns cc2) ∧ w5.cell? ⟨b, 0, none⟩ = some (.int .i64 (k : Int)) ∧ w5.cell? ⟨b, 1, none⟩ = some (.string d) ∧ w5.cell? ⟨gs, k, none⟩ = some (.string old) :=
        ⟨(hb5.cell (p := ⟨p, 4, none⟩) hpw).trans c4, (hb5.cell (p := ⟨b, 0, none⟩) hbw).trans b0, (hb5.cell (p := ⟨b, 1, none⟩) hbw).trans b1, (hb5.cell (p := ⟨gs, k, none⟩) hgs).trans hcgs0⟩
      have hf5 : w5.frozen? ⟨gs, k, none⟩ = false := (hb5.frozen (p := ⟨gs, k, none⟩) hgs).trans fgs
      have hs5 := hS5.2.2.2
      refine hK _ _ ⟨fun _ => hS5, ?_⟩
      clear hK K
      refine anyTill_takeAt 38 (i := 20) (v := .pointer (some ⟨gs, k, none⟩)) rfl rfl (by kernel_rfl) (by kernel_rfl) (by kernel_rfl) (by kernel_rfl) (fun _ _ _ h => h) (Or.inl ⟨by rfl, fun w' hw' => by obtain ⟨q1, q2, q3, q4⟩ := hw'; go_simp⟩) hS5 ?_
      refine anyTill_one (i := 21) (by kernel_rfl) rfl rfl (fun K hK => ?_)
      go_simp
      refine hK _ _ ⟨fun h => absurd rfl h, ?_⟩
      clear hK K
      refine anyTill_done (by kernel_rfl) ?_ _
      obtain ⟨hd, hkw, hse, hF, hsl, hlen, hm0, hkW, hdef, hok⟩ := HZ.out
      obtain ⟨hne1, hne2⟩ := HNE.out
      obtain ⟨n1, n2, n3⟩ := HNN.out
      have hb5' : Below W0.heap.size W0 w5 := ⟨hb5.os, hb5.tape, hb5.output, hb5.size, hb5.block⟩
      have hk5 : Kept [] W0 w5 := Kept.of_below hb5'
      have hm5 : DevMem w5 p { si with line := rest } (.slice (some ⟨gp, 0, none⟩) Np cc1) (.slice (some ⟨gs, 0, none⟩) Ns cc2) (some c) := by
        have := hm0
        exact ⟨this.line.kept hk5 (by simp) (by simp), row_kept this.rowp hk5 (by simp), row_kept this.rows hk5 (by simp), this.nodup⟩
      obtain ⟨hm6, hk6⟩ := hm5.setSync k (mixB old d ki)
      have e6 : (⟨(mixL old.data.toList d.data.toList ki).toArray⟩ : ByteArray) = mixB old d ki := rfl
      rw [e6]
      generalize hxe : mixB old d ki = x at *
      have z3 : (w5.setCell ⟨gs, k, none⟩ (.string x)).cell? ⟨p, 3, none⟩ = some (.slice (some ⟨gp, 0, none⟩) Np cc1) := hm6.line.has.cell 3
      have z4 : (w5.setCell ⟨gs, k, none⟩ (.string x)).cell? ⟨p, 4, none⟩ = some (.slice (some ⟨gs, 0, none⟩) Ns cc2) := hm6.line.has.cell 4
      have hgb : gs ≠ b := by omega
      have z0 : (w5.setCell ⟨gs, k, none⟩ (.string x)).cell? ⟨b, 0, none⟩ = some (.int .i64 (k : Int)) :=
        (hk6.cell (p := ⟨b, 0, none⟩) (World.block_lt_of_cell? _ _ hS5.2.1) (by simpa using hgb.symm)).trans hS5.2.1
      have hgg : gp ≠ gs := fun e => (n1 gp rfl).2.1 (by rw [e]; rfl)
      have hgp5 : w5.cell? ⟨gp, k, none⟩ = some (.string oldp) := (hk5.cell (p := ⟨gp, k, none⟩) (by show gp < W0.heap.size; omega) (by simp)).trans hcgp0
      have z5 : (w5.setCell ⟨gs, k, none⟩ (.string x)).cell? ⟨gp, k, none⟩ = some (.string oldp) := (hk6.cell (p := ⟨gp, k, none⟩) (World.block_lt_of_cell? _ _ hgp5) (by simpa using hgg)).trans hgp5
      have z6 : (w5.setCell ⟨gs, k, none⟩ (.string x)).cell? ⟨gs, k, none⟩ = some (.string x) := by
        have hr6 := hm6.rows
        have e : ({ ({ si with line := rest } : DevS) with synced := si.synced.set k x } : DevS).synced.length = Ns := by simp [hne1]
        rw [e] at hr6
        rw [hr6.cellAt k (by omega)]
        have hks' : k < si.synced.length := by omega
        simp [hks']
      have y5 := row_free hm6.rowp k
      obtain ⟨hm7, hk7⟩ := hm6.setPage k x
      have HV := Lib.hid (And.intro hd (And.intro hkw (And.intro hse (And.intro hF (And.intro hsl (And.intro hlen (And.intro hkW (And.intro hdef (And.intro hok (And.intro hm7 (And.intro hk7 (And.intro hk6 hk5))))))))))))
      have HXE := Lib.hid hxe
      generalize w5.setCell ⟨gs, k, none⟩ (.string x) = W6 at *
      clear hd hkw hse hF hsl hlen hm0 hkW hdef hok hne1 hne2 n1 n2 n3 hb5' hk5 hm5 hm6 hk6 hm7 hk7 hxe hgp5 hS5 hf5 hs5 hb5 hS0 c3 c4 b0 b1 hcgs0 hcgp0 fgs HZ HNE HNN HKP HMX e6
      have hS6 : W6.drew.cell? ⟨p, 3, none⟩ = some (.slice (some ⟨gp, 0, none⟩) Np cc1) ∧ W6.drew.cell? ⟨p, 4, none⟩ = some (.slice (some ⟨gs, 0, none⟩) Ns cc2) ∧ W6.drew.cell? ⟨b, 0, none⟩ = some (.int .i64 (k : Int)) ∧ W6.drew.cell? ⟨gs, k, none⟩ = some (.string x) := ⟨z3, z4, z0, z6⟩
      go_wp2_with fail
      refine wp_region_till (fun w' => w'.cell? ⟨p, 3, none⟩ = some (.slice (some ⟨gp, 0, none⟩) Np cc1) ∧ w'.cell? ⟨p, 4, none⟩ = some (.slice (some ⟨gs, 0, none⟩) Ns cc2) ∧ w'.cell? ⟨b, 0, none⟩ = some (.int .i64 (k : Int)) ∧ w'.cell? ⟨gs, k, none⟩ = some (.string x)) 15 (by kernel_rfl) ?_
      refine anyTill_takeAt 39 (i := 0) (v := .pointer (some ⟨p, 0, none⟩)) rfl rfl (by kernel_rfl) (by kernel_rfl) (by kernel_rfl) (by kernel_rfl) (fun _ _ _ h => h) (Or.inl ⟨by rfl, fun w' hw' => by obtain ⟨q1, q2, q3, q4⟩ := hw'; go_simp⟩) hS6 ?_
      simp only [List.setIfInBounds_toArray, List.set_cons_zero, List.set_cons_succ]
      refine anyTill_takeAt 40 (i := 1) (v := .pointer (some ⟨p, 0, none⟩)) rfl rfl (by kernel_rfl) (by kernel_rfl) (by kernel_rfl) (by kernel_rfl) (fun _ _ _ h => h) (Or.inl ⟨by rfl, fun w' hw' => by obtain ⟨q1, q2, q3, q4⟩ := hw'; go_simp⟩) hS6 ?_
      simp only [List.setIfInBounds_toArray, List.set_cons_zero, List.set_cons_succ]
      refine anyTill_takeAt 41 (i := 2) (v := .pointer (some ⟨p, 3, none⟩)) rfl rfl (by kernel_rfl) (by kernel_rfl) (by kernel_rfl) (by kernel_rfl) (fun _ _ _ h => h) (Or.inl ⟨by rfl, fun w' hw' => by obtain ⟨q1, q2, q3, q4⟩ := hw'; go_simp⟩) hS6 ?_
      simp only [List.setIfInBounds_toArray, List.set_cons_zero, List.set_cons_succ]
      refine anyTill_takeAt 42 (i := 3) (v := .slice (some ⟨gp, 0, none⟩) Np cc1) rfl rfl (by kernel_rfl) (by kernel_rfl) (by kernel_rfl) (by kernel_rfl) (fun _ _ _ h => h) (Or.inl ⟨by rfl, fun w' hw' => by obtain ⟨q1, q2, q3, q4⟩ := hw'; go_simp⟩) hS6 ?_
      simp only [List.setIfInBounds_toArray, List.set_cons_zero, List.set_cons_succ]
      refine anyTill_takeAt 43 (i := 4) (v := .pointer (some ⟨b, 0, none⟩)) rfl rfl (by kernel_rfl) (by kernel_rfl) (by kernel_rfl) (by kernel_rfl) (fun _ _ _ h => h) (Or.inl ⟨by rfl, fun w' hw' => by obtain ⟨q1, q2, q3, q4⟩ := hw'; go_simp⟩) hS6 ?_
      simp only [List.setIfInBounds_toArray, List.set_cons_zero, List.set_cons_succ]
      refine anyTill_takeAt 44 (i := 5) (v := .int .i64 (k : Int)) rfl rfl (by kernel_rfl) (by kernel_rfl) (by kernel_rfl) (by kernel_rfl) (fun _ _ _ h => h) (Or.inl ⟨by rfl, fun w' hw' => by obtain ⟨q1, q2, q3, q4⟩ := hw'; go_simp⟩) hS6 ?_
      simp only [List.setIfInBounds_toArray, List.set_cons_zero, List.set_cons_succ]
      refine anyTill_takeAt 45 (i := 6) (v := .pointer (some ⟨p, 0, none⟩)) rfl rfl (by kernel_rfl) (by kernel_rfl) (by kernel_rfl) (by kernel_rfl) (fun _ _ _ h => h) (Or.inl ⟨by rfl, fun w' hw' => by obtain ⟨q1, q2, q3, q4⟩ := hw'; go_simp⟩) hS6 ?_
      simp only [List.setIfInBounds_toArray, List.set_cons_zero, List.set_cons_succ]
      refine anyTill_takeAt 46 (i := 7) (v := .pointer (some ⟨p, 0, none⟩)) rfl rfl (by kernel_rfl) (by kernel_rfl) (by kernel_rfl) (by kernel_rfl) (fun _ _ _ h => h) (Or.inl ⟨by rfl, fun w' hw' => by obtain ⟨q1, q2, q3, q4⟩ := hw'; go_simp⟩) hS6 ?_
      simp only [List.setIfInBounds_toArray, List.set_cons_zero, List.set_cons_succ]
      refine anyTill_takeAt 47 (i := 8) (v := .pointer (some ⟨p, 4, none⟩)) rfl rfl (by kernel_rfl) (by kernel_rfl) (by kernel_rfl) (by kernel_rfl) (fun _ _ _ h => h) (Or.inl ⟨by rfl, fun w' hw' => by obtain ⟨q1, q2, q3, q4⟩ := hw'; go_simp⟩) hS6 ?_
      simp only [List.setIfInBounds_toArray, List.set_cons_zero, List.set_cons_succ]
      refine anyTill_takeAt 48 (i := 9) (v := .slice (some ⟨gs, 0, none⟩) Ns cc2) rfl rfl (by kernel_rfl) (by kernel_rfl) (by kernel_rfl) (by kernel_rfl) (fun _ _ _ h => h) (Or.inl ⟨by rfl, fun w' hw' => by obtain ⟨q1, q2, q3, q4⟩ := hw'; go_simp⟩) hS6 ?_
      simp only [List.setIfInBounds_toArray, List.set_cons_zero, List.set_cons_succ]
      refine anyTill_takeAt 49 (i := 10) (v := .pointer (some ⟨b, 0, none⟩)) rfl rfl (by kernel_rfl) (by kernel_rfl) (by kernel_rfl) (by kernel_rfl) (fun _ _ _ h => h) (Or.inl ⟨by rfl, fun w' hw' => by obtain ⟨q1, q2, q3, q4⟩ := hw'; go_simp⟩) hS6 ?_
      simp only [List.setIfInBounds_toArray, List.set_cons_zero, List.set_cons_succ]
      refine anyTill_takeAt 50 (i := 11) (v := .int .i64 (k : Int)) rfl rfl (by kernel_rfl) (by kernel_rfl) (by kernel_rfl) (by kernel_rfl) (fun _ _ _ h => h) (Or.inl ⟨by rfl, fun w' hw' => by obtain ⟨q1, q2, q3, q4⟩ := hw'; go_simp⟩) hS6 ?_
      simp only [List.setIfInBounds_toArray, List.set_cons_zero, List.set_cons_succ]
      refine anyTill_takeAt 51 (i := 12) (v := .pointer (some ⟨gs, k, none⟩)) rfl rfl (by kernel_rfl) (by kernel_rfl) (by kernel_rfl) (by kernel_rfl) (fun _ _ _ h => h) (Or.inl ⟨by rfl, fun w' hw' => by obtain ⟨q1, q2, q3, q4⟩ := hw'; go_simp⟩) hS6 ?_
      simp only [List.setIfInBounds_toArray, List.set_cons_zero, List.set_cons_succ]
      refine anyTill_takeAt 52 (i := 13) (v := .string x) rfl rfl (by kernel_rfl) (by kernel_rfl) (by kernel_rfl) (by kernel_rfl) (fun _ _ _ h => h) (Or.inl ⟨by rfl, fun w' hw' => by obtain ⟨q1, q2, q3, q4⟩ := hw'; go_simp⟩) hS6 ?_
      simp only [List.setIfInBounds_toArray, List.set_cons_zero, List.set_cons_succ]
      refine anyTill_takeAt 53 (i := 14) (v := .pointer (some ⟨gp, k, none⟩)) rfl rfl (by kernel_rfl) (by kernel_rfl) (by kernel_rfl) (by kernel_rfl) (fun _ _ _ h => h) (Or.inl ⟨by rfl, fun w' hw' => by obtain ⟨q1, q2, q3, q4⟩ := hw'; go_simp⟩) hS6 ?_
      simp only [List.setIfInBounds_toArray, List.set_cons_zero, List.set_cons_succ]
      refine anyTill_one (i := 15) (by kernel_rfl) rfl rfl (fun K hK => ?_)
      go_simp
      refine hK _ _ ⟨fun h => absurd rfl h, ?_⟩
      clear hK K
      refine anyTill_done (by kernel_rfl) ?_ _
      obtain ⟨hd, hkw, hse, hF, hsl, hlen, hkW, hdef, hok, hm7, hk7, hk6, hk5⟩ := HV.out
      have hst : ({ ({ ({ si with line := rest } : DevS) with synced := si.synced.set k x } : DevS) with pages := si.pages.set k x } : DevS) = { settle1 si k d (keep i) with line := rest } := by
        unfold settle1
        rw [HKI.out, Int.toNat_natCast, hdef, HXE.out]
      have hfin : Settling keep s w p F (gk - 1) (.int .i64 ((i : Int) + 1)) (W6.setCell ⟨gp, k, none⟩ (.string x)).drew := by
        have hok7 := settle1_ok (k := keep i) hok hsl
        rw [← hst] at hok7
        have hat := (hm7.at_ hok7).drew
        refine ⟨i + 1, _, by omega, ?_, by simp, by rw [hF]; exact hat, ?_, ?_⟩
        · show rest.length = gk - 1
          rw [← hlen, hsl]
          simp
        · have hgF : gp ∈ F := by rw [hF]; exact mem_devBlocks.2 (.inr (.inl rfl))
          have hsF : gs ∈ F := by rw [hF]; exact mem_devBlocks.2 (.inr (.inr (.inl rfl)))
          exact (((hkW.trans (hk5.mono (by simp))).trans (hk6.mono (by simpa using .inl hsF))).trans (hk7.mono (by simpa using .inl hgF))).drew
        · rw [← hse, hsl, hst]
          show settled keep (i + 1) rest { settle1 si k d (keep i) with line := rest } = settled keep (i + 1) rest (settle1 si k d (keep i))
          exact settled_line keep rest (i + 1) _ _
      have HFIN := Lib.hid hfin
      clear hd hkw hse hF hsl hlen hkW hdef hok hm7 hk7 hk6 hk5 hst hfin hS6 z0 z3 z4 z5 z6 y5
      go_wp2
      go_roundg (gk - 1)
      case measure => omega
      case rel => exact HFIN.out
end Go.Proofs.YtmcfldcpmjdfbaaGreatDoor
