/-
  Copying, sorting and looking through rows of numbers; a pile of numbers behind the heap's interface.
-/
import Derived.Test.YtlalhinodmmgfaaGreatMg7
import Derived.Test.YtlalhinodmmgfaaGreatShelf
import Derived.Sort.OwnSortedInts
namespace Go.Proofs.YtlalhinodmmgfaaGreat
open Go.RowKit Go.Sort

/-- v is a slice that reads as the values xs; its block, if it has one, is none of F. -/
def ReadsO (F : List Nat) (w : World) (v : Value) (xs : List Value) : Prop :=
  ∃ (A : Option Addr) (c : Nat), v = .slice A xs.length c ∧ (0 < xs.length → ∃ b off, A = some ⟨b, off, none⟩ ∧ b < w.heap.size ∧ b ∉ F ∧ ∀ (j : Nat) (u : Value), xs[j]? = some u → w.cell? ⟨b, off + j, none⟩ = some u)

theorem ReadsO.kept {F : List Nat} {w w' : World} {v : Value} {xs : List Value} (h : ReadsO F w v xs) (hk : Kept F w w') : ReadsO F w' v xs := by
  obtain ⟨A, c, rfl, h⟩ := h
  refine ⟨A, c, rfl, fun hn => ?_⟩
  obtain ⟨b, off, rfl, hlt, hF, hc⟩ := h hn
  exact ⟨b, off, rfl, Nat.lt_of_lt_of_le hlt hk.size, hF, fun j u hu => (hk.cell (p := ⟨b, off + j, none⟩) hlt hF).trans (hc j u hu)⟩
theorem ReadsO.goes {F F' : List Nat} {w w' : World} {v : Value} {xs : List Value} (h : ReadsO F w v xs) (hk : Goes F w F' w') : ReadsO F' w' v xs := by
  obtain ⟨A, c, rfl, h⟩ := h
  refine ⟨A, c, rfl, fun hn => ?_⟩
  obtain ⟨b, off, rfl, hlt, hF, hc⟩ := h hn
  exact ⟨b, off, rfl, Nat.lt_of_lt_of_le hlt hk.1.size, fun hb => (hk.2 b hb).elim hF (fun h => by omega), fun j u hu => (hk.1.cell (p := ⟨b, off + j, none⟩) hlt hF).trans (hc j u hu)⟩
theorem ReadsO.mono {F G : List Nat} {w : World} {v : Value} {xs : List Value} (h : ReadsO F w v xs) (hs : ∀ k ∈ G, k ∈ F ∨ w.heap.size ≤ k) : ReadsO G w v xs := by
  obtain ⟨A, c, rfl, h⟩ := h
  refine ⟨A, c, rfl, fun hn => ?_⟩
  obtain ⟨b, off, rfl, hlt, hF, hc⟩ := h hn
  exact ⟨b, off, rfl, hlt, fun hb => (hs b hb).elim hF (fun h => by omega), hc⟩
/-- What came in is none of what is made. -/
theorem Reads1.toO {B : Nat} {F : List Nat} {w : World} {v : Value} {xs : List Value} (h : Reads1 w B v xs) (hB : B ≤ w.heap.size) (hF : ∀ k ∈ F, B ≤ k) : ReadsO F w v xs := by
  obtain ⟨A, c, rfl, h⟩ := h
  refine ⟨A, c, rfl, fun hn => ?_⟩
  obtain ⟨b, off, rfl, hlt, hc⟩ := h hn
  exact ⟨b, off, rfl, by omega, fun hb => by have := hF b hb; omega, hc⟩
/-- A row of one's own. -/
theorem row_readsO {base : Nat} {e : TypeId} {F : List Nat} {w : World} {v : Value} {n : Nat} {xs : List Value} (h : w.ownsRow base e 1 v n xs) (hF : ∀ g, v.ownBlock = some g → g ∉ F) : ReadsO F w v xs := by
  have hl : xs.length = n := by simpa using h.1
  rcases h.2 with ⟨rfl, rfl⟩ | ⟨g, cap, cur, rfl, _, hg, _⟩
  · exact ⟨none, 0, by rw [hl], fun h0 => by omega⟩
  · refine ⟨some ⟨g, 0, none⟩, cap, by rw [hl], fun _ => ⟨g, 0, rfl, lt_of_block hg, hF g rfl, fun j u hu => ?_⟩⟩
    have hj : j < n * 1 := by have := (List.getElem?_eq_some_iff.1 hu).1; omega
    rw [Nat.zero_add, h.cellAt j hj, hu]

theorem idxFrom_cases (x : Int) : ∀ (l : List Int) (i : Nat), (x ∉ l ∧ Lib.idxFrom l x i = -1) ∨ ∃ k, l[k]? = some x ∧ Lib.idxFrom l x i = ((i + k : Nat) : Int)
  | [], i => .inl ⟨by simp, by simp [Lib.idxFrom]⟩
  | y :: r, i => by
    by_cases h : y = x
    · exact .inr ⟨0, by simp [h], by simp [Lib.idxFrom, h]⟩
    · rcases idxFrom_cases x r (i + 1) with ⟨h1, h2⟩ | ⟨k, h1, h2⟩
      · exact .inl ⟨by simp [Ne.symm h, h1], by simp [Lib.idxFrom, h, h2]⟩
      · exact .inr ⟨k + 1, by simpa using h1, by simp [Lib.idxFrom, h, h2]; omega⟩

theorem index_any {F : List Nat} {w : World} {v : Value} {l : List Int} (x : Int) (h : ReadsO F w v (l.map (.int .i64))) (hl : l.length ≤ 1000000) :
    Calls Tryz.prog 114 #[v, .int .i64 x] w fun e w' => (∃ z : Int, e = .returned (.int .i64 z) ∧ ((x ∉ l ∧ z = -1) ∨ ∃ k : Nat, l[k]? = some x ∧ z = k)) ∧ w' = w := by
  obtain ⟨A, c, rfl, h⟩ := h
  have key : (x ∉ l ∧ Lib.idxOf l x = -1) ∨ ∃ k : Nat, l[k]? = some x ∧ Lib.idxOf l x = k := by
    have := idxFrom_cases x l 0
    simpa [Lib.idxOf] using this
  rcases Nat.eq_zero_or_pos l.length with h0 | h0
  · obtain rfl := List.eq_nil_of_length_eq_zero h0
    refine (Tryz.slices_Index_int_empty A c x w).mono fun e w' he => ⟨⟨_, he.1, key⟩, he.2⟩
  · obtain ⟨b, off, rfl, _, _, hc⟩ := h (by simpa using h0)
    have hh := Tryz.slices_Index_int b off l.length c l x w (Nat.le_refl _) (by omega) (fun j hj => by
      refine hc j _ ?_
      rw [List.getElem?_map, List.getElem?_eq_getElem hj, List.getD, List.getElem?_eq_getElem hj]
      rfl)
    rw [List.take_length] at hh
    rw [List.length_map]
    exact hh.mono fun e w' he => ⟨⟨_, he.1, key⟩, he.2⟩

theorem clone_any {F : List Nat} {w : World} {v : Value} {l : List Int} (h : ReadsO F w v (l.map (.int .i64))) (hl : l.length ≤ 1000000) :
    Calls Tryz.prog 116 #[v] w fun e w' => ∃ v', e = .returned v' ∧ w'.ownsRow w.heap.size 3 1 v' l.length (l.map (.int .i64)) ∧ Below w.heap.size w w' := by
  obtain ⟨A, c, rfl, h⟩ := h
  rcases Nat.eq_zero_or_pos l.length with h0 | h0
  · obtain rfl := List.eq_nil_of_length_eq_zero h0
    rcases A with _ | a
    · exact (Tryz.slices_Clone_int_nil 0 c w).mono fun e w' he => by obtain ⟨rfl, rfl⟩ := he; exact ⟨_, rfl, World.ownsRow_nil _ _ _ _, Below.refl _ _⟩
    · exact (Tryz.slices_Clone_int_zero a c w).mono fun e w' he => by obtain ⟨v', rfl, ho, _, hb⟩ := he; exact ⟨_, rfl, ho, hb⟩
  · obtain ⟨b, off, rfl, _, _, hc⟩ := h (by simpa using h0)
    have hh := Tryz.slices_Clone_int b off l.length c l w (Nat.le_refl _) (by omega) (fun j hj => by
      refine hc j _ ?_
      rw [List.getElem?_map, List.getElem?_eq_getElem hj, List.getD, List.getElem?_eq_getElem hj]
      rfl)
    rw [List.take_length] at hh
    rw [List.length_map]
    exact hh.mono fun e w' he => by obtain ⟨v', rfl, ho, _, hb⟩ := he; exact ⟨_, rfl, ho, hb⟩

def leInt (x y : Int) : Bool := decide (x ≤ y)

theorem sort_own {w : World} {base : Nat} {v : Value} {l : List Int} (h : w.ownsRow base 3 1 v l.length (l.map (.int .i64))) (hl : l.length ≤ 1000000) :
    Calls Tryz.prog 117 #[v] w fun e w' => e = .returned (.tuple #[]) ∧ w'.ownsRow base 3 1 v l.length ((l.mergeSort leInt).map (.int .i64)) ∧ w.grownBy w' v.ownBlock := by
  rcases Nat.eq_zero_or_pos l.length with h0 | h0
  · obtain rfl := List.eq_nil_of_length_eq_zero h0
    obtain ⟨A, c, rfl⟩ := row_form h
    refine (Tryz.slices_Sort_int_none A c w).mono fun e w' he => ?_
    obtain ⟨rfl, rfl⟩ := he
    exact ⟨rfl, by simpa using h, rfl, rfl, rfl, Nat.le_refl _, fun _ _ _ => rfl⟩
  · rcases h.2 with ⟨_, h1⟩ | ⟨g, cap, cur, rfl, hb, hg, hnc, hcm, hcs, htake⟩
    · omega
    · have hH := holds_of_blockI (ss := l) hg (by simpa using htake)
      refine (Tryz.slices_Sort_int g 0 cap l w hH (lt_of_block hg) (by omega)).mono fun e w' he => ?_
      obtain ⟨rfl, n, os, rfl⟩ := he
      refine ⟨rfl, ?_, grownBy_sortedI _⟩
      exact ownsRow_sortedI (ss := l) (List.length_mergeSort _) hb hg hnc hcm (by omega)

theorem leInt_total : ∀ a b : Int, (leInt a b || leInt b a) = true := by
  intro a b
  unfold leInt
  simp
  omega
theorem leInt_trans : ∀ a b c : Int, leInt a b = true → leInt b c = true → leInt a c = true := by
  intro a b c
  unfold leInt
  simp
  omega
theorem srt_le (l : List Int) : (l.mergeSort leInt).Pairwise fun a b => a ≤ b := by
  have := List.pairwise_mergeSort leInt_trans leInt_total l
  exact this.imp (by intro a b h; simpa [leInt] using h)
/-- What is sorted is the same of all that hold the same. -/
theorem sort_perm {l m : List Int} (h : l.Perm m) : l.mergeSort leInt = m.mergeSort leInt := by
  have h1 := (srt_le l)
  have h2 := (srt_le m)
  exact List.Perm.eq_of_pairwise (le := fun a b => a ≤ b) (fun a b _ _ h1 h2 => Int.le_antisymm h1 h2) h1 h2 (((List.mergeSort_perm l leInt).trans h).trans (List.mergeSort_perm m leInt).symm)

theorem numHO (p : Nat) {o : Nat} (S : Spot o) : HO 176 (.pointer (some ⟨p, o, none⟩)) 172 184 187 186 185 ltInt (fun x => .iface 3 (.int .i64 x)) (NumAt p S) where
  mLen := fun w => by kernel_rfl
  mLess := fun w => by kernel_rfl
  mSwap := fun w => by kernel_rfl
  mPush := fun w => by kernel_rfl
  mPop := fun w => by kernel_rfl
  eLen := fun _ _ => by kernel_rfl
  eLess := fun _ _ => by kernel_rfl
  eSwap := fun _ _ => by kernel_rfl
  ePush := fun _ _ => by kernel_rfl
  ePop := fun _ _ => by kernel_rfl
  swo := swo_ltInt
  few := fun ⟨_, _, _, _, _, h⟩ => h
  len := fun h => nlen_any h
  less := fun i j h hi hj => nless_any i j h hi hj
  swap := fun i j h hi hj => nswap_any i j h hi hj
  push := fun x h hs => npush_any x h hs
  pop := fun h h0 => npop_any h h0
end Go.Proofs.YtlalhinodmmgfaaGreat
