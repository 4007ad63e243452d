/-
  The calls of a pile of numbers.
-/
import Derived.Test.YtlalhinodmmgfaaGreatMg25
namespace Go.Proofs.YtlalhinodmmgfaaGreat
open Go.RowKit Go.Sort

theorem below_of_grownBy' {a b : World} {row : Option Nat} {B : Nat} (h : a.grownBy b row) (hB : B ≤ a.heap.size) (hg : ∀ g, row = some g → B ≤ g) : Below B a b :=
  ⟨h.os, h.tape, h.output, h.size, fun k hk => h.block k (by omega) (fun e => by have := hg k e.symm; omega)⟩

/-- A pile at p that holds what stands in l. -/
def PileIs (p : Nat) {o : Nat} (S : Spot o) (w : World) (F : List Nat) (l : List Int) : Prop := HeapOf ltInt (NumAt p S) F l w

theorem PileIs.kept {p o : Nat} {S : Spot o} {w w' : World} {F G : List Nat} {l : List Int} (h : PileIs p S w F l) (hk : Kept G w w') (hd : ∀ k ∈ F, k ∉ G) : PileIs p S w' F l := by
  obtain ⟨a, ha, h1, h2⟩ := h
  exact ⟨a, ha.kept hk hd, h1, h2⟩
theorem PileIs.below {p o : Nat} {S : Spot o} {w w' : World} {F : List Nat} {l : List Int} (h : PileIs p S w F l) (hb : Below w.heap.size w w') : PileIs p S w' F l := h.kept (G := []) (Kept.of_below hb) (by simp)
theorem PileIs.lt {p o : Nat} {S : Spot o} {w : World} {F : List Nat} {l : List Int} (h : PileIs p S w F l) : ∀ k ∈ F, k < w.heap.size := by
  obtain ⟨a, ha, _⟩ := h
  exact ha.lt
theorem PileIs.perm {p o : Nat} {S : Spot o} {w : World} {F : List Nat} {l m : List Int} (h : PileIs p S w F l) (hp : l.Perm m) : PileIs p S w F m := by
  obtain ⟨a, ha, h1, h2⟩ := h
  exact ⟨a, ha, h1, h2.trans hp⟩
theorem PileIs.few {p o : Nat} {S : Spot o} {w : World} {F : List Nat} {l : List Int} (h : PileIs p S w F l) : l.length ≤ 1000000 := by
  obtain ⟨a, ⟨_, _, _, _, _, hs⟩, h1, h2⟩ := h
  have := h2.length_eq
  simp at this
  omega

theorem ltInt_iff {x y : Int} : ltInt x y = false ↔ y ≤ x := by
  unfold ltInt
  simp

/-- x is one of the least of x :: s. -/
theorem pile_first {a : Array Int} {x : Int} {s : List Int} (hh : HeapFrom ltInt a a.size 0) (hp : a.toList.Perm (x :: s)) (hm : ∀ y ∈ s, x ≤ y) : 0 < a.size ∧ a[0]! = x := by
  have hl : a.size = s.length + 1 := by simpa using hp.length_eq
  have h0 : 0 < a.size := by omega
  refine ⟨h0, ?_⟩
  have hin : a[0]! ∈ a.toList := by
    have : a[0]! = a[0] := by simp [h0]
    rw [this]; simp
  have hle : x ≤ a[0]! := by
    rcases List.mem_cons.1 (hp.mem_iff.1 hin) with h | h
    · omega
    · exact hm _ h
  have hx : x ∈ a.toList := hp.mem_iff.2 (by simp)
  obtain ⟨k, hk, rfl⟩ := List.mem_iff_getElem.1 hx
  have hk' : k < a.size := by simpa using hk
  have e : a.toList[k] = a[k]! := by simp [hk']
  have := ltInt_iff.1 (hh.least swo_ltInt k hk')
  omega

/-- A pile that lies alone. -/
def plainSpot : Spot 0 := ⟨98, fun v => #[v], fun _ => rfl, fun _ _ => rfl⟩

set_option maxRecDepth 100000 in
theorem put_any {p o : Nat} {S : Spot o} {w : World} {F : List Nat} {l xs : List Int} {v : Value} (h : PileIs p S w F l) (hv : ReadsO F w v (xs.map (.int .i64))) (hl : xs.length + l.length ≤ 1000000) :
    Calls Tryz.prog 80 #[.pointer (some ⟨p, o, none⟩), v] w fun e w' => e = .returned (.tuple #[]) ∧ ∃ F', PileIs p S w' F' (xs ++ l) ∧ Goes F w F' w' := by
  obtain ⟨A, c, rfl, hr⟩ := hv
  rw [List.length_map] at *
  obtain ⟨n, hn⟩ : ∃ n, xs.length = n := ⟨_, rfl⟩
  have HR := Lib.hid (show ReadsO F w (.slice A n c) (xs.map (.int .i64)) from ⟨A, c, by rw [List.length_map, hn], by rw [List.length_map]; exact hr⟩)
  have HN := Lib.hid (And.intro hn hl)
  have H := Lib.hid h
  rw [hn]
  have hnb : n ≤ 1000000 := by omega
  clear h hr hl hn
  go_enter Tryz.func80, Tryz.ntmps80
  go_wp2_with fail
  go_loopg [10] n (fun g i wr => ∃ (k : Nat), i = .int .i64 k ∧ k + g = n ∧ ∃ G, PileIs p S wr G (xs.take k ++ l) ∧ Goes F w G wr)
  case atStart => exact ⟨0, rfl, by omega, F, by simpa using H.out, Goes.refl _ _⟩
  case round =>
    obtain ⟨k, rfl, hkg, G, hp, hgo⟩ := hrel
    by_cases hlt : k < n
    · have hlt' : k < xs.length := by rw [HN.out.1]; exact hlt
      have hro := HR.out.goes hgo
      obtain ⟨A', c', hA, hro⟩ := hro
      obtain ⟨b, off, hAb, hbl, hbG, hcell⟩ := hro (by rw [List.length_map]; omega)
      simp only [Value.slice.injEq] at hA
      obtain ⟨rfl, hA2, rfl⟩ := hA
      subst hAb
      have hck := hcell k (.int .i64 xs[k]) (by simp [hlt'])
      obtain ⟨a, ha, hh, hpm⟩ := hp
      have hsz : a.size < 1000000 := by
        have h1 := hpm.length_eq
        have h2 := HN.out.2
        simp at h1
        omega
      have hpu := hpush_at (numHO p S) xs[k] ha hh hsz
      have HP := Lib.hid (And.intro hgo hpm)
      have e1 : (xs.take (k + 1)) = xs.take k ++ [xs[k]] := by rw [List.take_succ_eq_append_getElem hlt']
      have HE := Lib.hid e1
      generalize hx : xs[k] = x at *
      have k0 : (0 : Int) ≤ k := by omega
      have k1 : (k : Int) < n := by omega
      clear hgo hpm e1 hcell ha hh hbl hbG hA2 hro hx
      go_wp2_with fail
      refine hpu.mono ?_
      rintro e w2 ⟨rfl, G', hp2, hg2⟩
      have H2 := Lib.hid (And.intro hp2 hg2)
      clear hp2 hg2 hpu
      go_wp2
      go_roundg (n - (k + 1))
      case measure => omega
      case rel =>
        obtain ⟨hgo, hpm⟩ := HP.out
        refine ⟨k + 1, by go_num, by omega, G', PileIs.perm H2.out.1 ?_, hgo.trans H2.out.2⟩
        rw [HE.out, List.append_assoc]
        refine (hpm.cons x).trans ?_
        exact (List.perm_middle (l₁ := xs.take k) (a := x) (l₂ := l)).symm
    · obtain rfl : k = n := by omega
      have HP := Lib.hid (And.intro hp hgo)
      clear hp hgo
      go_wp2_with fail
      go_end0
      refine ⟨rfl, G, ?_, HP.out.2⟩
      have h1 := HP.out.1
      rwa [List.take_of_length_le (by rw [HN.out.1]; exact Nat.le_refl _)] at h1

set_option maxRecDepth 100000 in
theorem nfirst_some {p o : Nat} {S : Spot o} {w : World} {F : List Nat} {a : Array Int} (h : NumAt p S w F a) (h0 : 0 < a.size) :
    Calls Tryz.prog 111 #[.pointer (some ⟨p, o, none⟩)] w fun e w' => e = .returned (.tuple #[.int .i64 a[0]!, .bool true]) ∧ w' = w := by
  obtain ⟨g, cap, hp, hr, hne, rfl, hcap, hs, hm⟩ := h.open h0
  have hc := hp.spot
  have c0 := (hr.cellAt 0 (by omega)).trans (ints_at (by omega))
  generalize a[0]! = x at *
  generalize a.size = n at *
  have hz : ((n : Int) == 0) = false := by simp; omega
  have hb : decide ((0 : Int) < (n : Int)) = true := by simp; omega
  clear h hp hr
  go_enter Tryz.func111, Tryz.ntmps111
  go_wp2
  go_ret2
  exact ⟨rfl, rfl⟩

theorem nfirst_none {p o : Nat} {S : Spot o} {w : World} {F : List Nat} {a : Array Int} (h : NumAt p S w F a) (h0 : a.size = 0) :
    Calls Tryz.prog 111 #[.pointer (some ⟨p, o, none⟩)] w fun e w' => e = .returned (.tuple #[.int .i64 0, .bool false]) ∧ w' = w := by
  obtain ⟨v, hp, hr, hne, rfl, hs⟩ := h
  rw [h0] at hr
  obtain ⟨A, c, rfl⟩ := row_form hr
  have hc := hp.spot
  clear hp hr h0
  go_enter Tryz.func111, Tryz.ntmps111
  go_wp2
  go_ret2
  exact ⟨rfl, rfl⟩

theorem first_some {p o : Nat} {S : Spot o} {w : World} {F : List Nat} {l : List Int} {x : Int} {s : List Int} (h : PileIs p S w F l) (hp : l.Perm (x :: s)) (hm : ∀ y ∈ s, x ≤ y) :
    Calls Tryz.prog 81 #[.pointer (some ⟨p, o, none⟩)] w fun e w' => e = .returned (.tuple #[.int .i64 x, .bool true]) ∧ w' = w := by
  obtain ⟨a, ha, hh, hpm⟩ := h
  obtain ⟨h0, hx⟩ := pile_first hh (hpm.trans hp) hm
  have hf := nfirst_some ha h0
  rw [hx] at hf
  clear ha hh hpm hx hp hm h0
  go_enter Tryz.func81, Tryz.ntmps81
  go_wp2_with fail
  refine hf.mono ?_
  rintro e w' ⟨rfl, rfl⟩
  go_wp2_with fail
  go_ret2
  exact ⟨rfl, rfl⟩

theorem first_none {p o : Nat} {S : Spot o} {w : World} {F : List Nat} (h : PileIs p S w F []) :
    Calls Tryz.prog 81 #[.pointer (some ⟨p, o, none⟩)] w fun e w' => e = .returned (.tuple #[.int .i64 0, .bool false]) ∧ w' = w := by
  obtain ⟨a, ha, hh, hpm⟩ := h
  have hf := nfirst_none ha (by simpa using hpm.length_eq)
  clear ha hh hpm
  go_enter Tryz.func81, Tryz.ntmps81
  go_wp2_with fail
  refine hf.mono ?_
  rintro e w' ⟨rfl, rfl⟩
  go_wp2_with fail
  go_ret2
  exact ⟨rfl, rfl⟩

set_option maxRecDepth 100000 in
theorem take_some {p o : Nat} {S : Spot o} {w : World} {F : List Nat} {l : List Int} {x : Int} {s : List Int} (h : PileIs p S w F l) (hp : l.Perm (x :: s)) (hm : ∀ y ∈ s, x ≤ y) :
    Calls Tryz.prog 83 #[.pointer (some ⟨p, o, none⟩)] w fun e w' => e = .returned (.tuple #[.int .i64 x, .bool true]) ∧ PileIs p S w' F s ∧ Kept F w w' := by
  have hf := first_some h hp hm
  obtain ⟨a, ha, hh, hpm⟩ := h
  obtain ⟨h0, hx⟩ := pile_first hh (hpm.trans hp) hm
  have hpo := hpop_at (numHO p S) s ha hh h0 (by rw [hx]; exact hpm.trans hp)
  clear ha hh hpm hx hp hm h0
  go_enter Tryz.func83, Tryz.ntmps83
  go_wp2_with fail
  refine hf.mono ?_
  rintro e w' ⟨rfl, rfl⟩
  clear hf
  go_wp2_with fail
  refine hpo.mono ?_
  rintro e w1 ⟨rfl, hp, hk⟩
  have H := Lib.hid (And.intro hp hk)
  clear hp hk hpo
  go_wp2_with fail
  go_ret2
  exact ⟨rfl, H.out.1, H.out.2⟩

set_option maxRecDepth 100000 in
theorem take_none {p o : Nat} {S : Spot o} {w : World} {F : List Nat} (h : PileIs p S w F []) :
    Calls Tryz.prog 83 #[.pointer (some ⟨p, o, none⟩)] w fun e w' => e = .returned (.tuple #[.int .i64 0, .bool false]) ∧ w' = w := by
  have hf := first_none h
  clear h
  go_enter Tryz.func83, Tryz.ntmps83
  go_wp2_with fail
  refine hf.mono ?_
  rintro e w' ⟨rfl, rfl⟩
  clear hf
  go_wp2_with fail
  go_ret2
  exact ⟨rfl, rfl⟩

theorem len_any {p o : Nat} {S : Spot o} {w : World} {F : List Nat} {l : List Int} (h : PileIs p S w F l) :
    Calls Tryz.prog 171 #[.pointer (some ⟨p, o, none⟩)] w fun e w' => e = .returned (.int .i64 (l.length : Nat)) ∧ w' = w := by
  obtain ⟨a, ha, hh, hpm⟩ := h
  have hl := nlen_any ha
  rw [show a.size = l.length by simpa using hpm.length_eq] at hl
  clear ha hh hpm
  generalize l.length = n at *
  go_enter Tryz.func171, Tryz.ntmps171
  go_wp2_with fail
  refine hl.mono ?_
  rintro e w' ⟨rfl, rfl⟩
  go_wp2_with fail
  go_ret
  exact ⟨rfl, rfl⟩

set_option maxRecDepth 100000 in
theorem list_any {p o : Nat} {S : Spot o} {w : World} {F : List Nat} {l : List Int} (h : PileIs p S w F l) :
    Calls Tryz.prog 85 #[.pointer (some ⟨p, o, none⟩)] w fun e w' => ∃ v', e = .returned v' ∧ w'.ownsRow w.heap.size 3 1 v' l.length ((l.mergeSort leInt).map (.int .i64)) ∧ Below w.heap.size w w' := by
  have hfew := h.few
  obtain ⟨a, ha, hh, hpm⟩ := h
  obtain ⟨v, hp, hr, hne, rfl, hs⟩ := ha
  have hro : ReadsO [] w v (a.toList.map (.int .i64)) := row_readsO hr (fun g _ => by simp)
  have hcl := clone_any hro (by simpa using hs)
  have hc := hp.spot
  obtain ⟨A, c, rfl⟩ := row_form hr
  have hz : a.toList.length = l.length := hpm.length_eq
  have HP := Lib.hid (And.intro hpm (And.intro hz hfew))
  clear hp hr hne hs hh hpm hro hz hfew
  generalize a.size = n at *
  go_enter Tryz.func85, Tryz.ntmps85
  go_wp2_with fail
  refine hcl.mono ?_
  rintro e w1 ⟨v', rfl, ho, hb⟩
  obtain ⟨A', c', rfl⟩ := row_form ho
  have hso := sort_own ho (by have := HP.out; omega)
  have HB := Lib.hid (And.intro ho hb)
  generalize hm : a.toList.length = m at *
  clear ho hb hcl hc
  go_wp2_with fail
  refine hso.mono ?_
  rintro e w2 ⟨rfl, ho2, hg2⟩
  have H2 := Lib.hid (And.intro ho2 hg2)
  clear ho2 hg2 hso
  go_wp2_with fail
  go_ret
  obtain ⟨hpm, hz, hfew⟩ := HP.out
  obtain ⟨ho, hb⟩ := HB.out
  obtain ⟨ho2, hg2⟩ := H2.out
  refine ⟨_, rfl, ?_, hb.trans ?_⟩
  · rw [← hz, ← sort_perm hpm]
    exact ho2
  · exact below_of_grownBy' hg2 hb.size (fun g hg => (ho.lt g hg).1)

theorem erase_perm {a : Array Int} {l : List Int} {x : Int} {k : Nat} (hp : a.toList.Perm l) (hk : a.toList[k]? = some x) : k < a.size ∧ a[k]! = x ∧ a.toList.Perm (a[k]! :: l.erase x) := by
  obtain ⟨hlt, he⟩ := List.getElem?_eq_some_iff.1 hk
  have hlt' : k < a.size := by simpa using hlt
  have e : a[k]! = x := by
    rw [← he]
    simp [hlt']
  refine ⟨hlt', e, ?_⟩
  rw [e]
  have hmem : x ∈ l := hp.mem_iff.1 (by rw [← he]; exact List.getElem_mem hlt)
  exact hp.trans (List.perm_cons_erase hmem)

set_option maxRecDepth 100000 in
theorem drop_any {p o : Nat} {S : Spot o} {w : World} {F : List Nat} {l : List Int} (x : Int) (h : PileIs p S w F l) :
    Calls Tryz.prog 84 #[.pointer (some ⟨p, o, none⟩), .int .i64 x] w fun e w' => e = .returned (.bool (decide (x ∈ l))) ∧ PileIs p S w' F (l.erase x) ∧ Kept F w w' := by
  have H := Lib.hid h
  have hfew := h.few
  obtain ⟨a, ha, hh, hpm⟩ := h
  have ha' := ha
  obtain ⟨v, hp, hr, hne, rfl, hs⟩ := ha
  have hro : ReadsO [] w v (a.toList.map (.int .i64)) := row_readsO hr (fun g _ => by simp)
  have hix := index_any x hro (by simpa using hs)
  have hc := hp.spot
  obtain ⟨A, c, rfl⟩ := row_form hr
  have HP := Lib.hid (And.intro hpm (And.intro ha' hh))
  clear hp hr hne hs hh hpm hro hfew ha'
  generalize hn : a.size = n at *
  have HN := Lib.hid hn
  clear hn
  go_enter Tryz.func84, Tryz.ntmps84
  go_wp2_with fail
  refine hix.mono ?_
  rintro e w' ⟨⟨z, rfl, hz⟩, rfl⟩
  clear hix
  rcases hz with ⟨hnx, rfl⟩ | ⟨k, hk, rfl⟩
  · have hd : decide (x ∈ l) = false := by
      have := HP.out.1.mem_iff (a := x)
      simp only [decide_eq_false_iff_not]
      exact fun hx => hnx (this.2 hx)
    have hnl : x ∉ l := by simpa using hd
    have HD := Lib.hid (And.intro hd hnl)
    clear hd hnl hnx
    go_wp2_with fail
    go_ret
    refine ⟨?_, ?_, Kept.refl _ _⟩
    · rw [HD.out.1]
      rfl
    · rw [List.erase_of_not_mem HD.out.2]
      exact H.out
  · obtain ⟨hpm, ha, hh⟩ := HP.out
    obtain ⟨hlt, hx, hpp⟩ := erase_perm hpm hk
    have hre := hremove_at (numHO p S) (l.erase x) k ha (by rw [HN.out]; exact hh) hlt hpp
    have hd : decide (x ∈ l) = true := by
      simp only [decide_eq_true_eq]
      exact hpm.mem_iff.1 (List.mem_of_getElem? hk)
    have HD := Lib.hid hd
    have hkb : (0 : Int) ≤ k := by omega
    clear hpm ha hh hlt hx hpp hd hk
    go_wp2_with fail
    refine hre.mono ?_
    rintro e w1 ⟨rfl, hp, hkk⟩
    have H2 := Lib.hid (And.intro hp hkk)
    clear hp hkk hre
    go_wp2_with fail
    go_ret
    exact ⟨by rw [HD.out]; rfl, H2.out.1, H2.out.2⟩
end Go.Proofs.YtlalhinodmmgfaaGreat
