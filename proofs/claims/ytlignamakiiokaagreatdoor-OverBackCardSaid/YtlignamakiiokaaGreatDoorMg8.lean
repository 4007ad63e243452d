/-
  Copying, sorting and looking through rows of numbers; a pile of numbers behind the heap's interface. The calls of a pile of numbers.
-/
import Derived.Test.YtlignamakiiokaaGreatDoorMg7
import Derived.Test.YtlignamakiiokaaGreatDoorShelf
import Derived.Sort.OwnSortedInts
namespace Go.Proofs.YtlignamakiiokaaGreatDoor
open Go.RowKit Go.Sort

/-- v is a slice that reads as the values xs; its block, if it has one, is none of F. -/
def ReadsO (F : List Nat) (w : World) (v : Value) (xs : List Value) : Prop :=
  ∃ (A : Option Addr) (c : Nat), v = .slice A xs.length c ∧ (0 < xs.length → ∃ b off, A = some ⟨b, off, none⟩ ∧ b < w.heap.size ∧ b ∉ F ∧ ∀ (j : Nat) (u : Value), xs[j]? = some u → w.cell? ⟨b, off + j, none⟩ = some u)

theorem ReadsO.kept {F : List Nat} {w w' : World} {v : Value} {xs : List Value} (h : ReadsO F w v xs) (hk : Kept F w w') : ReadsO F w' v xs := by
  obtain ⟨A, c, rfl, h⟩ := h
  refine ⟨A, c, rfl, fun hn => ?_⟩
  obtain ⟨b, off, rfl, hlt, hF, hc⟩ := h hn
  exact ⟨b, off, rfl, Nat.lt_of_lt_of_le hlt hk.size, hF, fun j u hu => (hk.cell (p := ⟨b, off + j, none⟩) hlt hF).trans (hc j u hu)⟩
theorem ReadsO.goes {F F' : List Nat} {w w' : World} {v : Value} {xs : List Value} (h : ReadsO F w v xs) (hk : Goes F w F' w') : ReadsO F' w' v xs := by
  obtain ⟨A, c, rfl, h⟩ := h
  refine ⟨A, c, rfl, fun hn => ?_⟩
  obtain ⟨b, off, rfl, hlt, hF, hc⟩ := h hn
  exact ⟨b, off, rfl, Nat.lt_of_lt_of_le hlt hk.1.size, fun hb => (hk.2 b hb).elim hF (fun h => by omega), fun j u hu => (hk.1.cell (p := ⟨b, off + j, none⟩) hlt hF).trans (hc j u hu)⟩
theorem ReadsO.mono {F G : List Nat} {w : World} {v : Value} {xs : List Value} (h : ReadsO F w v xs) (hs : ∀ k ∈ G, k ∈ F ∨ w.heap.size ≤ k) : ReadsO G w v xs := by
  obtain ⟨A, c, rfl, h⟩ := h
  refine ⟨A, c, rfl, fun hn => ?_⟩
  obtain ⟨b, off, rfl, hlt, hF, hc⟩ := h hn
  exact ⟨b, off, rfl, hlt, fun hb => (hs b hb).elim hF (fun h => by omega), hc⟩
/-- What came in is none of what is made. -/
theorem Reads1.toO {B : Nat} {F : List Nat} {w : World} {v : Value} {xs : List Value} (h : Reads1 w B v xs) (hB : B ≤ w.heap.size) (hF : ∀ k ∈ F, B ≤ k) : ReadsO F w v xs := by
  obtain ⟨A, c, rfl, h⟩ := h
  refine ⟨A, c, rfl, fun hn => ?_⟩
  obtain ⟨b, off, rfl, hlt, hc⟩ := h hn
  exact ⟨b, off, rfl, by omega, fun hb => by have := hF b hb; omega, hc⟩
/-- A row of one's own. -/
theorem row_readsO {base : Nat} {e : TypeId} {F : List Nat} {w : World} {v : Value} {n : Nat} {xs : List Value} (h : w.ownsRow base e 1 v n xs) (hF : ∀ g, v.ownBlock = some g → g ∉ F) : ReadsO F w v xs := by
  have hl : xs.length = n := by simpa using h.1
  rcases h.2 with ⟨rfl, rfl⟩ | ⟨g, cap, cur, rfl, _, hg, _⟩
  · exact ⟨none, 0, by rw [hl], fun h0 => by omega⟩
  · refine ⟨some ⟨g, 0, none⟩, cap, by rw [hl], fun _ => ⟨g, 0, rfl, lt_of_block hg, hF g rfl, fun j u hu => ?_⟩⟩
    have hj : j < n * 1 := by have := (List.getElem?_eq_some_iff.1 hu).1; omega
    rw [Nat.zero_add, h.cellAt j hj, hu]



theorem clone_any {F : List Nat} {w : World} {v : Value} {l : List Int} (h : ReadsO F w v (l.map (.int .i64))) (hl : l.length ≤ 1000000) :
    Calls Tryz.prog 156 #[v] w fun e w' => ∃ v', e = .returned v' ∧ w'.ownsRow w.heap.size 3 1 v' l.length (l.map (.int .i64)) ∧ Below w.heap.size w w' := by
  obtain ⟨A, c, rfl, h⟩ := h
  rcases Nat.eq_zero_or_pos l.length with h0 | h0
  · obtain rfl := List.eq_nil_of_length_eq_zero h0
    rcases A with _ | a
    · exact (Tryz.slices_Clone_int_nil 0 c w).mono fun e w' he => by obtain ⟨rfl, rfl⟩ := he; exact ⟨_, rfl, World.ownsRow_nil _ _ _ _, Below.refl _ _⟩
    · exact (Tryz.slices_Clone_int_zero a c w).mono fun e w' he => by obtain ⟨v', rfl, ho, _, hb⟩ := he; exact ⟨_, rfl, ho, hb⟩
  · obtain ⟨b, off, rfl, _, _, hc⟩ := h (by simpa using h0)
    have hh := Tryz.slices_Clone_int b off l.length c l w (Nat.le_refl _) (by omega) (fun j hj => by
      refine hc j _ ?_
      rw [List.getElem?_map, List.getElem?_eq_getElem hj, List.getD, List.getElem?_eq_getElem hj]
      rfl)
    rw [List.take_length] at hh
    rw [List.length_map]
    exact hh.mono fun e w' he => by obtain ⟨v', rfl, ho, _, hb⟩ := he; exact ⟨_, rfl, ho, hb⟩

def leInt (x y : Int) : Bool := decide (x ≤ y)

theorem sort_own {w : World} {base : Nat} {v : Value} {l : List Int} (h : w.ownsRow base 3 1 v l.length (l.map (.int .i64))) (hl : l.length ≤ 1000000) :
    Calls Tryz.prog 114 #[v] w fun e w' => e = .returned (.tuple #[]) ∧ w'.ownsRow base 3 1 v l.length ((l.mergeSort leInt).map (.int .i64)) ∧ w.grownBy w' v.ownBlock := by
  rcases Nat.eq_zero_or_pos l.length with h0 | h0
  · obtain rfl := List.eq_nil_of_length_eq_zero h0
    obtain ⟨A, c, rfl⟩ := row_form h
    refine (Tryz.slices_Sort_int_none A c w).mono fun e w' he => ?_
    obtain ⟨rfl, rfl⟩ := he
    exact ⟨rfl, by simpa using h, rfl, rfl, rfl, Nat.le_refl _, fun _ _ _ => rfl⟩
  · rcases h.2 with ⟨_, h1⟩ | ⟨g, cap, cur, rfl, hb, hg, hnc, hcm, hcs, htake⟩
    · omega
    · have hH := holds_of_blockI (ss := l) hg (by simpa using htake)
      refine (Tryz.slices_Sort_int g 0 cap l w hH (lt_of_block hg) (by omega)).mono fun e w' he => ?_
      obtain ⟨rfl, n, os, rfl⟩ := he
      refine ⟨rfl, ?_, grownBy_sortedI _⟩
      exact ownsRow_sortedI (ss := l) (List.length_mergeSort _) hb hg hnc hcm (by omega)

theorem leInt_total : ∀ a b : Int, (leInt a b || leInt b a) = true := by
  intro a b
  unfold leInt
  simp
  omega
theorem leInt_trans : ∀ a b c : Int, leInt a b = true → leInt b c = true → leInt a c = true := by
  intro a b c
  unfold leInt
  simp
  omega
theorem srt_le (l : List Int) : (l.mergeSort leInt).Pairwise fun a b => a ≤ b := by
  have := List.pairwise_mergeSort leInt_trans leInt_total l
  exact this.imp (by intro a b h; simpa [leInt] using h)
/-- What is sorted is the same of all that hold the same. -/
theorem sort_perm {l m : List Int} (h : l.Perm m) : l.mergeSort leInt = m.mergeSort leInt := by
  have h1 := (srt_le l)
  have h2 := (srt_le m)
  exact List.Perm.eq_of_pairwise (le := fun a b => a ≤ b) (fun a b _ _ h1 h2 => Int.le_antisymm h1 h2) h1 h2 (((List.mergeSort_perm l leInt).trans h).trans (List.mergeSort_perm m leInt).symm)

theorem numHO (p : Nat) {o : Nat} (S : Spot o) : HO 254 (.pointer (some ⟨p, o, none⟩)) 269 276 279 278 277 ltInt (fun x => .iface 3 (.int .i64 x)) (NumAt p S) where
  mLen := fun w => by kernel_rfl
  mLess := fun w => by kernel_rfl
  mSwap := fun w => by kernel_rfl
  mPush := fun w => by kernel_rfl
  mPop := fun w => by kernel_rfl
  eLen := fun _ _ => by kernel_rfl
  eLess := fun _ _ => by kernel_rfl
  eSwap := fun _ _ => by kernel_rfl
  ePush := fun _ _ => by kernel_rfl
  ePop := fun _ _ => by kernel_rfl
  swo := swo_ltInt
  few := fun ⟨_, _, _, _, _, h⟩ => h
  len := fun h => nlen_any h
  less := fun i j h hi hj => nless_any i j h hi hj
  swap := fun i j h hi hj => nswap_any i j h hi hj
  push := fun x h hs => npush_any x h hs
  pop := fun h h0 => npop_any h h0
end Go.Proofs.YtlignamakiiokaaGreatDoor

namespace Go.Proofs.YtlignamakiiokaaGreatDoor
open Go.RowKit Go.Sort

theorem below_of_grownBy' {a b : World} {row : Option Nat} {B : Nat} (h : a.grownBy b row) (hB : B ≤ a.heap.size) (hg : ∀ g, row = some g → B ≤ g) : Below B a b :=
  ⟨h.os, h.tape, h.output, h.size, fun k hk => h.block k (by omega) (fun e => by have := hg k e.symm; omega)⟩

/-- A pile at p that holds what stands in l. -/
def PileIs (p : Nat) {o : Nat} (S : Spot o) (w : World) (F : List Nat) (l : List Int) : Prop := HeapOf ltInt (NumAt p S) F l w

theorem PileIs.kept {p o : Nat} {S : Spot o} {w w' : World} {F G : List Nat} {l : List Int} (h : PileIs p S w F l) (hk : Kept G w w') (hd : ∀ k ∈ F, k ∉ G) : PileIs p S w' F l := by
  obtain ⟨a, ha, h1, h2⟩ := h
  exact ⟨a, ha.kept hk hd, h1, h2⟩
theorem PileIs.below {p o : Nat} {S : Spot o} {w w' : World} {F : List Nat} {l : List Int} (h : PileIs p S w F l) (hb : Below w.heap.size w w') : PileIs p S w' F l := h.kept (G := []) (Kept.of_below hb) (by simp)
theorem PileIs.lt {p o : Nat} {S : Spot o} {w : World} {F : List Nat} {l : List Int} (h : PileIs p S w F l) : ∀ k ∈ F, k < w.heap.size := by
  obtain ⟨a, ha, _⟩ := h
  exact ha.lt
theorem PileIs.perm {p o : Nat} {S : Spot o} {w : World} {F : List Nat} {l m : List Int} (h : PileIs p S w F l) (hp : l.Perm m) : PileIs p S w F m := by
  obtain ⟨a, ha, h1, h2⟩ := h
  exact ⟨a, ha, h1, h2.trans hp⟩
theorem PileIs.few {p o : Nat} {S : Spot o} {w : World} {F : List Nat} {l : List Int} (h : PileIs p S w F l) : l.length ≤ 1000000 := by
  obtain ⟨a, ⟨_, _, _, _, _, hs⟩, h1, h2⟩ := h
  have := h2.length_eq
  simp at this
  omega

theorem ltInt_iff {x y : Int} : ltInt x y = false ↔ y ≤ x := by
  unfold ltInt
  simp

/-- x is one of the least of x :: s. -/
theorem pile_first {a : Array Int} {x : Int} {s : List Int} (hh : HeapFrom ltInt a a.size 0) (hp : a.toList.Perm (x :: s)) (hm : ∀ y ∈ s, x ≤ y) : 0 < a.size ∧ a[0]! = x := by
  have hl : a.size = s.length + 1 := by simpa using hp.length_eq
  have h0 : 0 < a.size := by omega
  refine ⟨h0, ?_⟩
  have hin : a[0]! ∈ a.toList := by
    have : a[0]! = a[0] := by simp [h0]
    rw [this]; simp
  have hle : x ≤ a[0]! := by
    rcases List.mem_cons.1 (hp.mem_iff.1 hin) with h | h
    · omega
    · exact hm _ h
  have hx : x ∈ a.toList := hp.mem_iff.2 (by simp)
  obtain ⟨k, hk, rfl⟩ := List.mem_iff_getElem.1 hx
  have hk' : k < a.size := by simpa using hk
  have e : a.toList[k] = a[k]! := by simp [hk']
  have := ltInt_iff.1 (hh.least swo_ltInt k hk')
  omega


set_option maxRecDepth 100000 in
theorem put_any {p o : Nat} {S : Spot o} {w : World} {F : List Nat} {l xs : List Int} {v : Value} (h : PileIs p S w F l) (hv : ReadsO F w v (xs.map (.int .i64))) (hl : xs.length + l.length ≤ 1000000) :
    Calls Tryz.prog 126 #[.pointer (some ⟨p, o, none⟩), v] w fun e w' => e = .returned (.tuple #[]) ∧ ∃ F', PileIs p S w' F' (xs ++ l) ∧ Goes F w F' w' := by
  obtain ⟨A, c, rfl, hr⟩ := hv
  rw [List.length_map] at *
  obtain ⟨n, hn⟩ : ∃ n, xs.length = n := ⟨_, rfl⟩
  have HR := Lib.hid (show ReadsO F w (.slice A n c) (xs.map (.int .i64)) from ⟨A, c, by rw [List.length_map, hn], by rw [List.length_map]; exact hr⟩)
  have HN := Lib.hid (And.intro hn hl)
  have H := Lib.hid h
  rw [hn]
  have hnb : n ≤ 1000000 := by omega
  clear h hr hl hn
  go_enter Tryz.func126, Tryz.ntmps126
  go_wp2_with fail
  go_loopg [10] n (fun g i wr => ∃ (k : Nat), i = .int .i64 k ∧ k + g = n ∧ ∃ G, PileIs p S wr G (xs.take k ++ l) ∧ Goes F w G wr)
  case atStart => exact ⟨0, rfl, by omega, F, by simpa using H.out, Goes.refl _ _⟩
  case round =>
    obtain ⟨k, rfl, hkg, G, hp, hgo⟩ := hrel
    by_cases hlt : k < n
    · have hlt' : k < xs.length := by rw [HN.out.1]; exact hlt
      have hro := HR.out.goes hgo
      obtain ⟨A', c', hA, hro⟩ := hro
      obtain ⟨b, off, hAb, hbl, hbG, hcell⟩ := hro (by rw [List.length_map]; omega)
      simp only [Value.slice.injEq] at hA
      obtain ⟨rfl, hA2, rfl⟩ := hA
      subst hAb
      have hck := hcell k (.int .i64 xs[k]) (by simp [hlt'])
      obtain ⟨a, ha, hh, hpm⟩ := hp
      have hsz : a.size < 1000000 := by
        have h1 := hpm.length_eq
        have h2 := HN.out.2
        simp at h1
        omega
      have hpu := hpush_at (numHO p S) xs[k] ha hh hsz
      have HP := Lib.hid (And.intro hgo hpm)
      have e1 : (xs.take (k + 1)) = xs.take k ++ [xs[k]] := by rw [List.take_succ_eq_append_getElem hlt']
      have HE := Lib.hid e1
      generalize hx : xs[k] = x at *
      have k0 : (0 : Int) ≤ k := by omega
      have k1 : (k : Int) < n := by omega
      clear hgo hpm e1 hcell ha hh hbl hbG hA2 hro hx
      go_wp2_with fail
      refine hpu.mono ?_
      rintro e w2 ⟨rfl, G', hp2, hg2⟩
      have H2 := Lib.hid (And.intro hp2 hg2)
      clear hp2 hg2 hpu
      go_wp2
      go_roundg (n - (k + 1))
      case measure => omega
      case rel =>
        obtain ⟨hgo, hpm⟩ := HP.out
        refine ⟨k + 1, by go_num, by omega, G', PileIs.perm H2.out.1 ?_, hgo.trans H2.out.2⟩
        rw [HE.out, List.append_assoc]
        refine (hpm.cons x).trans ?_
        exact (List.perm_middle (l₁ := xs.take k) (a := x) (l₂ := l)).symm
    · obtain rfl : k = n := by omega
      have HP := Lib.hid (And.intro hp hgo)
      clear hp hgo
      go_wp2_with fail
      go_end0
      refine ⟨rfl, G, ?_, HP.out.2⟩
      have h1 := HP.out.1
      rwa [List.take_of_length_le (by rw [HN.out.1]; exact Nat.le_refl _)] at h1

set_option maxRecDepth 100000 in
theorem nfirst_some {p o : Nat} {S : Spot o} {w : World} {F : List Nat} {a : Array Int} (h : NumAt p S w F a) (h0 : 0 < a.size) :
    Calls Tryz.prog 198 #[.pointer (some ⟨p, o, none⟩)] w fun e w' => e = .returned (.tuple #[.int .i64 a[0]!, .bool true]) ∧ w' = w := by
  obtain ⟨g, cap, hp, hr, hne, rfl, hcap, hs, hm⟩ := h.open h0
  have hc := hp.spot
  have c0 := (hr.cellAt 0 (by omega)).trans (ints_at (by omega))
  generalize a[0]! = x at *
  generalize a.size = n at *
  have hz : ((n : Int) == 0) = false := by simp; omega
  have hb : decide ((0 : Int) < (n : Int)) = true := by simp; omega
  clear h hp hr
  go_enter Tryz.func198, Tryz.ntmps198
  go_wp2
  go_ret2
  exact ⟨rfl, rfl⟩

theorem nfirst_none {p o : Nat} {S : Spot o} {w : World} {F : List Nat} {a : Array Int} (h : NumAt p S w F a) (h0 : a.size = 0) :
    Calls Tryz.prog 198 #[.pointer (some ⟨p, o, none⟩)] w fun e w' => e = .returned (.tuple #[.int .i64 0, .bool false]) ∧ w' = w := by
  obtain ⟨v, hp, hr, hne, rfl, hs⟩ := h
  rw [h0] at hr
  obtain ⟨A, c, rfl⟩ := row_form hr
  have hc := hp.spot
  clear hp hr h0
  go_enter Tryz.func198, Tryz.ntmps198
  go_wp2
  go_ret2
  exact ⟨rfl, rfl⟩

theorem first_some {p o : Nat} {S : Spot o} {w : World} {F : List Nat} {l : List Int} {x : Int} {s : List Int} (h : PileIs p S w F l) (hp : l.Perm (x :: s)) (hm : ∀ y ∈ s, x ≤ y) :
    Calls Tryz.prog 165 #[.pointer (some ⟨p, o, none⟩)] w fun e w' => e = .returned (.tuple #[.int .i64 x, .bool true]) ∧ w' = w := by
  obtain ⟨a, ha, hh, hpm⟩ := h
  obtain ⟨h0, hx⟩ := pile_first hh (hpm.trans hp) hm
  have hf := nfirst_some ha h0
  rw [hx] at hf
  clear ha hh hpm hx hp hm h0
  go_enter Tryz.func165, Tryz.ntmps165
  go_wp2_with fail
  refine hf.mono ?_
  rintro e w' ⟨rfl, rfl⟩
  go_wp2_with fail
  go_ret2
  exact ⟨rfl, rfl⟩

theorem first_none {p o : Nat} {S : Spot o} {w : World} {F : List Nat} (h : PileIs p S w F []) :
    Calls Tryz.prog 165 #[.pointer (some ⟨p, o, none⟩)] w fun e w' => e = .returned (.tuple #[.int .i64 0, .bool false]) ∧ w' = w := by
  obtain ⟨a, ha, hh, hpm⟩ := h
  have hf := nfirst_none ha (by simpa using hpm.length_eq)
  clear ha hh hpm
  go_enter Tryz.func165, Tryz.ntmps165
  go_wp2_with fail
  refine hf.mono ?_
  rintro e w' ⟨rfl, rfl⟩
  go_wp2_with fail
  go_ret2
  exact ⟨rfl, rfl⟩

set_option maxRecDepth 100000 in
theorem take_some {p o : Nat} {S : Spot o} {w : World} {F : List Nat} {l : List Int} {x : Int} {s : List Int} (h : PileIs p S w F l) (hp : l.Perm (x :: s)) (hm : ∀ y ∈ s, x ≤ y) :
    Calls Tryz.prog 123 #[.pointer (some ⟨p, o, none⟩)] w fun e w' => e = .returned (.tuple #[.int .i64 x, .bool true]) ∧ PileIs p S w' F s ∧ Kept F w w' := by
  have hf := first_some h hp hm
  obtain ⟨a, ha, hh, hpm⟩ := h
  obtain ⟨h0, hx⟩ := pile_first hh (hpm.trans hp) hm
  have hpo := hpop_at (numHO p S) s ha hh h0 (by rw [hx]; exact hpm.trans hp)
  clear ha hh hpm hx hp hm h0
  go_enter Tryz.func123, Tryz.ntmps123
  go_wp2_with fail
  refine hf.mono ?_
  rintro e w' ⟨rfl, rfl⟩
  clear hf
  go_wp2_with fail
  refine hpo.mono ?_
  rintro e w1 ⟨rfl, hp, hk⟩
  have H := Lib.hid (And.intro hp hk)
  clear hp hk hpo
  go_wp2_with fail
  go_ret2
  exact ⟨rfl, H.out.1, H.out.2⟩

set_option maxRecDepth 100000 in
theorem take_none {p o : Nat} {S : Spot o} {w : World} {F : List Nat} (h : PileIs p S w F []) :
    Calls Tryz.prog 123 #[.pointer (some ⟨p, o, none⟩)] w fun e w' => e = .returned (.tuple #[.int .i64 0, .bool false]) ∧ w' = w := by
  have hf := first_none h
  clear h
  go_enter Tryz.func123, Tryz.ntmps123
  go_wp2_with fail
  refine hf.mono ?_
  rintro e w' ⟨rfl, rfl⟩
  clear hf
  go_wp2_with fail
  go_ret2
  exact ⟨rfl, rfl⟩


set_option maxRecDepth 100000 in
theorem list_any {p o : Nat} {S : Spot o} {w : World} {F : List Nat} {l : List Int} (h : PileIs p S w F l) :
    Calls Tryz.prog 112 #[.pointer (some ⟨p, o, none⟩)] w fun e w' => ∃ v', e = .returned v' ∧ w'.ownsRow w.heap.size 3 1 v' l.length ((l.mergeSort leInt).map (.int .i64)) ∧ Below w.heap.size w w' := by
  have hfew := h.few
  obtain ⟨a, ha, hh, hpm⟩ := h
  obtain ⟨v, hp, hr, hne, rfl, hs⟩ := ha
  have hro : ReadsO [] w v (a.toList.map (.int .i64)) := row_readsO hr (fun g _ => by simp)
  have hcl := clone_any hro (by simpa using hs)
  have hc := hp.spot
  obtain ⟨A, c, rfl⟩ := row_form hr
  have hz : a.toList.length = l.length := hpm.length_eq
  have HP := Lib.hid (And.intro hpm (And.intro hz hfew))
  clear hp hr hne hs hh hpm hro hz hfew
  generalize a.size = n at *
  go_enter Tryz.func112, Tryz.ntmps112
  go_wp2_with fail
  refine hcl.mono ?_
  rintro e w1 ⟨v', rfl, ho, hb⟩
  obtain ⟨A', c', rfl⟩ := row_form ho
  have hso := sort_own ho (by have := HP.out; omega)
  have HB := Lib.hid (And.intro ho hb)
  generalize hm : a.toList.length = m at *
  clear ho hb hcl hc
  go_wp2_with fail
  refine hso.mono ?_
  rintro e w2 ⟨rfl, ho2, hg2⟩
  have H2 := Lib.hid (And.intro ho2 hg2)
  clear ho2 hg2 hso
  go_wp2_with fail
  go_ret
  obtain ⟨hpm, hz, hfew⟩ := HP.out
  obtain ⟨ho, hb⟩ := HB.out
  obtain ⟨ho2, hg2⟩ := H2.out
  refine ⟨_, rfl, ?_, hb.trans ?_⟩
  · rw [← hz, ← sort_perm hpm]
    exact ho2
  · exact below_of_grownBy' hg2 hb.size (fun g hg => (ho.lt g hg).1)


end Go.Proofs.YtlignamakiiokaaGreatDoor
