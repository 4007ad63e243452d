/-
  slices.Chunk of numbers, sixty at a time: its closure, for every loop body that keeps what it reads. The bodies of some numbers: the free pages' own Chain, over slices.Chunk.
-/
import Derived.Test.YtlalhinodmmgfaaGreatMg19
import Derived.RangeFuncNested
import Derived.RangeFuncBound
import Derived.RangeFuncCalls
import Derived.RangeFuncLeaves
import Derived.RangeFuncBox
import Derived.Shelf.Abstract
import Derived.Shelf.RegionOpen
import Derived.OwnWalkIn
import Derived.TacticsInMore
import Derived.LoopNIn
import Derived.LoopIn
import Derived.Sort.QuietIn
namespace Go.Proofs.YtlalhinodmmgfaaGreat
open Go.RowKit Go.Lib Go.Shelf

attribute [local go_sem] Oper.semAt_some

/-- How many numbers the k-th part has, and the part as a slice. -/
def partN (len k : Nat) : Nat := min 60 (len - 60 * k)
def partV (b off len k : Nat) : Value := .slice (some ⟨b, off + 60 * k, none⟩) (partN len k) (partN len k)

set_option maxRecDepth 100000 in
set_option maxHeartbeats 2000000 in
theorem chunk1_in (F : Fence) (n : Nat) (hf : F.fn 86) (hro : F.round = none) (hn : 1 ≤ n) (y Bs Bn b off len cap K : Nat) (hK : K = (len + 59) / 60) (hlen : len ≤ 100000) (hcap : len ≤ cap) (J Jx : List Nat → World → Prop) (hJd : ∀ pre W q, J pre W → J pre (W.drewN q))
    (hY : ∀ pre k W, J pre W → pre.length < K → YieldAt F (n - 1) Tryz.prog y #[partV b off len k] W fun e W' =>
      (e = .returned (.bool true) ∧ J (pre ++ [k]) W' ∧ W'.heap[Bs]? = W.heap[Bs]? ∧ W'.heap[Bn]? = W.heap[Bn]?) ∨ (e = .returned (.bool false) ∧ Jx (pre ++ [k]) W'))
    (W : World) (hBs : W.heap[Bs]? = some (.cells #[.slice (some ⟨b, off, none⟩) len cap] 22 (0, 0))) (hBn : W.heap[Bn]? = some (.cells #[.int .i64 60] 3 (0, 0))) (h0 : J [] W) :
    CallsIn F n Tryz.prog 86 #[.func (.yield y) #[] #[], .pointer (some ⟨Bs, 0, none⟩), .pointer (some ⟨Bn, 0, none⟩)] W fun e W' => (∃ v, e = .returned v) ∧ (J (List.range K) W' ∨ ∃ k, k ≤ K ∧ Jx (List.range k) W') := by
  cases F
  simp only at hro
  subst hro
  refine callsIn_of_wp Tryz.func86 rfl hf ?_ rfl
  simp only [Tryz.ntmps86, List.size_toArray, List.length_cons, List.length_nil, Nat.reduceAdd, Nat.reduceSub, Array.replicate_succ, Array.replicate_zero, List.push_toArray, List.append_toArray, List.nil_append, List.cons_append]
  have HB := Lib.hid (And.intro hBs hBn)
  clear hBs hBn
  gi_wp2
  gi_loopw [4] (fun i wr => ∃ k j : Nat, k ≤ K ∧ j = 60 * k ∧ i = .int .i64 j ∧ J (List.range k) wr ∧ wr.heap[Bs]? = some (.cells #[.slice (some ⟨b, off, none⟩) len cap] 22 (0, 0)) ∧ wr.heap[Bn]? = some (.cells #[.int .i64 60] 3 (0, 0)))
    (fun i _ => 60 * K - (intOf i).toNat)
  case atStart => exact ⟨0, 0, Nat.zero_le _, rfl, rfl, h0, HB.out.1, HB.out.2⟩
  case round =>
    obtain ⟨k, j, hk, hj, rfl, hJs, hBs, hBn⟩ := hrel
    have c1 : wr.cell? ⟨Bs, 0, none⟩ = some (.slice (some ⟨b, off, none⟩) len cap) := by simp [World.cell?, hBs]
    have c2 : wr.cell? ⟨Bn, 0, none⟩ = some (.int .i64 60) := by simp [World.cell?, hBn]
    by_cases hlt : k < K
    · have hjl : j < len := by omega
      have hm : (min (60 : Int) ((len - 60 * k : Nat) : Int)) = ((partN len k : Nat) : Int) := by unfold partN; omega
      have hm1 : partN len k ≤ 60 := by unfold partN; omega
      have hm2 : j + partN len k ≤ len := by unfold partN; omega
      have hm3 : 60 * k + partN len k ≤ len := by unfold partN; omega
      have hm4 : 0 < partN len k := by unfold partN; omega
      have hm5 : ¬ partN len k = 0 := by omega
      have HM := Lib.hid hm
      clear hm
      gi_wp2
      gi_quiet (fail)
      obtain ⟨fn, tmps, assign, body, hy, hR⟩ := hY _ k (wr.drewN nq) (hJd _ _ nq hJs) (by rw [List.length_range]; exact hlt)
      have c1' : (wr.drewN nq).cell? ⟨Bs, 0, none⟩ = some (.slice (some ⟨b, off, none⟩) len cap) := c1
      have c2' : (wr.drewN nq).cell? ⟨Bn, 0, none⟩ = some (.int .i64 60) := c2
      unfold partV at hy
      rw [HM.out]
      generalize partN len k = m at *
      gi_wp2
      refine hR.mono ?_
      rintro e W3 (⟨rfl, hJ3, g1, g2⟩ | ⟨rfl, hJx3⟩)
      · have c3 : W3.cell? ⟨Bn, 0, none⟩ = some (.int .i64 60) := by
          have h3 : W3.heap[Bn]? = _ := g2.trans hBn
          simp [World.cell?, h3]
        have HG := Lib.hid (And.intro hJ3 (And.intro (g1.trans hBs) (g2.trans hBn)))
        clear hJ3 g1 g2 hBs hBn
        gi_wp2
        go_roundw
        case rel => exact ⟨k + 1, j + 60, by omega, by omega, by go_num, by rw [List.range_succ]; exact HG.out.1, HG.out.2.1, HG.out.2.2⟩
        case measure => simp [intOf]; omega
      · gi_wp2
        refine bodyPost_ret (results_none rfl _ _ _) rfl ?_
        exact ⟨⟨_, rfl⟩, .inr ⟨k + 1, by omega, by rw [List.range_succ]; exact hJx3⟩⟩
    · obtain rfl : k = K := by omega
      have hjl : ¬ (j < len) := by omega
      gi_wp2
      go_end0
      exact ⟨⟨_, rfl⟩, .inl hJs⟩

/-- What a round that goes on keeps: the two boxes that the closure reads. -/
def ChKp (Bs Bn : Nat) (A B : World) : Prop := B.heap[Bs]? = A.heap[Bs]? ∧ B.heap[Bn]? = A.heap[Bn]?
theorem chKp_t {Bs Bn : Nat} {A B C : World} (h : ChKp Bs Bn A B) (k : ChKp Bs Bn B C) : ChKp Bs Bn A C := ⟨k.1.trans h.1, k.2.trans h.2⟩
theorem chKp_b {Bs Bn : Nat} {w : World} (h1 : Bs < w.heap.size) (h2 : Bn < w.heap.size) (W : World) (l : Nat) (o o' : Obj) (hl : w.heap.size ≤ l) (_ : W.heap[l]? = some o) (_ : o.isCells = false) (_ : o.isWalk = false) : ChKp Bs Bn W (W.putObj l o') :=
  ⟨World.putObj_heap_other (by omega), World.putObj_heap_other (by omega)⟩

theorem chunk_stops (F : Fence) (n : Nat) (hf : F.fn 86) (hro : F.round = none) (hn : 1 ≤ n) (Bs Bn b off len cap K : Nat) (hK : K = (len + 59) / 60) (hlen : len ≤ 100000) (hcap : len ≤ cap) (w : World)
    (hBs : Boxed w Bs 22 (.slice (some ⟨b, off, none⟩) len cap)) (hBn : Boxed w Bn 3 (.int .i64 60)) :
    SeqStopsK F n Tryz.prog 86 #[.pointer (some ⟨Bs, 0, none⟩), .pointer (some ⟨Bn, 0, none⟩)] (fun k : Nat => #[partV b off len k]) (ChKp Bs Bn) (fun ys => ys = List.range K) (fun pre => ∃ k, k ≤ K ∧ pre = List.range k) K w := by
  intro l J Jx W hW hJ _ hY h0
  refine (chunk1_in F n hf hro hn l Bs Bn b off len cap K hK hlen hcap J Jx (fun pre W q h => hJ pre W _ none h ⟨rfl, rfl, rfl, Nat.le_refl _, fun _ _ _ => rfl⟩ (fun r e => by cases e)) hY W ((hW.block Bs hBs.lt).trans hBs) ((hW.block Bn hBn.lt).trans hBn) h0).mono ?_
  rintro e W' ⟨he, h | ⟨k, hk, h⟩⟩
  · exact ⟨he, .inl ⟨_, rfl, h⟩⟩
  · exact ⟨he, .inr ⟨_, ⟨k, hk, rfl⟩, h⟩⟩

set_option maxRecDepth 100000 in
set_option maxHeartbeats 1000000 in
theorem chunk_in (F : Fence) (n : Nat) (hf : F.fn 27) (hro : F.round = none) (a : Option Addr) (len cap : Nat) (w : World) :
    CallsIn F n Tryz.prog 27 #[.slice a len cap, .int .i64 60] w fun e w' => e = .returned (.func (.func 86) #[] #[.pointer (some ⟨w.heap.size, 0, none⟩), .pointer (some ⟨w.heap.size + 1, 0, none⟩)]) ∧ w' = (w.alloc (.cells #[.slice a len cap] 22)).alloc (.cells #[.int .i64 60] 3) := by
  cases F
  simp only at hro
  subst hro
  refine callsIn_of_wp Tryz.func27 rfl hf ?_ rfl
  simp only [Tryz.ntmps27, List.size_toArray, List.length_cons, List.length_nil, Nat.reduceAdd, Nat.reduceSub, Array.replicate_succ, Array.replicate_zero, List.push_toArray, List.append_toArray, List.nil_append, List.cons_append]
  have hb := (Boxed.new (w.alloc (.cells #[.slice a len cap] 22)) 3 (.int .i64 60)).cell
  rw [World.size_alloc] at hb
  gi_wp2
  go_ret
  exact ⟨rfl, rfl⟩
end Go.Proofs.YtlalhinodmmgfaaGreat

namespace Go.Proofs.YtlalhinodmmgfaaGreat
open Go.RowKit Go.Lib Go.Shelf

attribute [local go_sem] Oper.semAt_some

/-- The k-th sixty of l. -/
def partL (l : List Int) (k : Nat) : List Int := (l.drop (60 * k)).take 60

theorem length_partL (l : List Int) (k : Nat) : (partL l k).length = partN l.length k := by
  unfold partL partN
  rw [List.length_take, List.length_drop]
theorem box_thru {W w1 : World} {x B : Nat} {t : TypeId} {u v' : Value} {tmp : Obj} {row : Option Nat} (h : Boxed W x t u) (hg : (W.alloc tmp).grownBy w1 row) (hne : some x ≠ row) (hx : x ≠ B) : Boxed (w1.setCell ⟨B, 0, none⟩ v') x t u :=
  ((h.alloc tmp).kept hg hne).kept (grownBy_setCell' w1 B v') (by simpa using hx)
theorem boxed_own {β : Type} (B : Nat) (t : TypeId) (v : Value) : Own (fun (_ : β) W => Boxed W B t v) := by
  intro s X Y row hv hg hrow
  refine hv.kept hg (fun e' => ?_)
  obtain ⟨o, ho, hc⟩ := hrow B e'.symm
  rw [show X.heap[B]? = _ from hv] at ho; cases ho; cases hc
theorem boxed_below {W W' : World} {B : Nat} {t : TypeId} {v : Value} (h : Boxed W B t v) (hb : Below W.heap.size W W') : Boxed W' B t v := (hb.block B h.lt).trans h

theorem mem_part {l : List Int} {k : Nat} {x : Int} (h : x ∈ partL l k) : x ∈ l := List.mem_of_mem_drop (List.mem_of_mem_take h)
theorem part_mem {l : List Int} {x : Int} (h : x ∈ l) : ∃ k, k < (l.length + 59) / 60 ∧ x ∈ partL l k := by
  obtain ⟨i, hi, rfl⟩ := List.mem_iff_getElem.1 h
  refine ⟨i / 60, by omega, List.mem_iff_getElem?.2 ⟨i % 60, ?_⟩⟩
  unfold partL
  rw [List.getElem?_take, if_pos (by omega), List.getElem?_drop, show 60 * (i / 60) + i % 60 = i by omega]
  exact List.getElem?_eq_getElem hi
theorem part_at {l : List Int} {k j : Nat} {u : Value} (h : ((partL l k).map (Value.int .i64))[j]? = some u) : (l.map (Value.int .i64))[60 * k + j]? = some u := by
  unfold partL at h
  rw [List.getElem?_map, List.getElem?_take] at h
  split at h
  · rw [List.getElem?_drop] at h
    rw [List.getElem?_map]
    exact h
  · simp at h

/-- What stands between two rounds. -/
def ChI (l : List Int) (B b off len cap : Nat) (w : World) (pre : List Nat) (W : World) : Prop :=
  (∃ v, Boxed W (B + 2) 23 v ∧ W.ownsRow B 9 1 v pre.length ((pre.map fun k => bodyOf (partL l k)).map .string) ∧ ∀ k ∈ pre, ∀ x ∈ partL l k, fits x) ∧
  ((Boxed W B 23 (.slice none 0 0) ∧ Boxed W (B + 1) 42 (.int .i64 0)) ∧ (Boxed W (B + 3) 22 (.slice (some ⟨b, off, none⟩) len cap) ∧ Boxed W (B + 4) 3 (.int .i64 60))) ∧ Below B w W
/-- .. and where a round has left. -/
def ChX (l : List Int) (B : Nat) (w : World) (c : Code) (pre : List Nat) (W : World) : Prop :=
  ((c = .ret ∧ ∃ k ∈ pre, ¬ ∀ x ∈ partL l k, fits x) ∧ (Boxed W B 23 (.slice none 0 0) ∧ Boxed W (B + 1) 42 (.int .i64 1))) ∧ Below B w W

theorem chI_own {l : List Int} {B b off len cap : Nat} {w : World} {D : Nat} (hB : B ≤ w.heap.size) (hD : B ≤ D) : OwnFrom D (ChI l B b off len cap w) :=
  OwnFrom.and (Own.from (holdsRow_own B (B + 2) 23 9 1 (fun pre : List Nat => pre.length) (fun pre : List Nat => (pre.map fun k => bodyOf (partL l k)).map .string) (fun pre _ => ∀ k ∈ pre, ∀ x ∈ partL l k, fits x)) _)
    (OwnFrom.and (OwnFrom.and (OwnFrom.and ((boxed_own _ _ _).from _) ((boxed_own _ _ _).from _)) (OwnFrom.and ((boxed_own _ _ _).from _) ((boxed_own _ _ _).from _))) (ownFrom_below hB hD))
theorem chX_own {l : List Int} {B : Nat} {w : World} {D : Nat} (c : Code) (hB : B ≤ w.heap.size) (hD : B ≤ D) : OwnFrom D (ChX l B w c) :=
  OwnFrom.and (OwnFrom.and (fun _ _ _ _ h _ _ => h) (OwnFrom.and ((boxed_own _ _ _).from _) ((boxed_own _ _ _).from _))) (ownFrom_below hB hD)

set_option maxRecDepth 100000 in
set_option maxHeartbeats 2000000 in
theorem fchain_any {w : World} {b off len cap : Nat} {l : List Int} (hr : ∀ (j : Nat) (u : Value), (l.map (Value.int .i64))[j]? = some u → w.cell? ⟨b, off + j, none⟩ = some u) (hb : b < w.heap.size) (hll : l.length = len) (hcap : len ≤ cap) (hlen : len ≤ 100000) (hi : ∀ x ∈ l, IsInt x) :
    Calls Tryz.prog 8 #[.slice (some ⟨b, off, none⟩) len cap] w fun e w' => (((∀ x ∈ l, fits x) ∧ ∃ v', e = .returned (.tuple #[v', .int .i64 0]) ∧ TxRow w' w.heap.size v' ((List.range ((len + 59) / 60)).map fun k => bodyOf (partL l k))) ∨ ((¬ ∀ x ∈ l, fits x) ∧ e = .returned (.tuple #[.slice none 0 0, .int .i64 1]))) ∧ Below w.heap.size w w' := by
  refine (callsIn_wide (n := 3)).1 ?_
  have HL := Lib.hid (And.intro hr (And.intro hb (And.intro hll hi)))
  clear hr hb hll hi
  refine callsIn_of_wp_marks Tryz.func8 rfl trivial ?_ rfl
  simp only [Tryz.ntmps8, List.size_toArray, List.length_cons, List.length_nil, Nat.reduceAdd, Nat.reduceSub, Array.replicate_succ, Array.replicate_zero, List.push_toArray, List.append_toArray, List.nil_append, List.cons_append]
  gi_wp2_with (refine ⟨trivial, ?_⟩; gi_at_call 27; refine (chunk_in Fence.wide _ trivial rfl _ _ _ _).mono ?_; rintro e w' ⟨rfl, rfl⟩)
  have b2 := ((((Boxed.new w 23 (.slice none 0 0)).alloc (.cells #[.int .i64 0] 42)).alloc (.cells #[.slice none 0 0] 23)).alloc (.cells #[.slice (some ⟨b, off, none⟩) len cap] 22)).alloc (.cells #[.int .i64 60] 3)
  have b3 := (((Boxed.new (w.alloc (.cells #[.slice none 0 0] 23)) 42 (.int .i64 0)).alloc (.cells #[.slice none 0 0] 23)).alloc (.cells #[.slice (some ⟨b, off, none⟩) len cap] 22)).alloc (.cells #[.int .i64 60] 3)
  have b4 := ((Boxed.new ((w.alloc (.cells #[.slice none 0 0] 23)).alloc (.cells #[.int .i64 0] 42)) 23 (.slice none 0 0)).alloc (.cells #[.slice (some ⟨b, off, none⟩) len cap] 22)).alloc (.cells #[.int .i64 60] 3)
  have b5 := (Boxed.new (((w.alloc (.cells #[.slice none 0 0] 23)).alloc (.cells #[.int .i64 0] 42)).alloc (.cells #[.slice none 0 0] 23)) 22 (.slice (some ⟨b, off, none⟩) len cap)).alloc (.cells #[.int .i64 60] 3)
  have b6 := Boxed.new ((((w.alloc (.cells #[.slice none 0 0] 23)).alloc (.cells #[.int .i64 0] 42)).alloc (.cells #[.slice none 0 0] 23)).alloc (.cells #[.slice (some ⟨b, off, none⟩) len cap] 22)) 3 (.int .i64 60)
  have hB0 : Below w.heap.size w (((((w.alloc (.cells #[.slice none 0 0] 23)).alloc (.cells #[.int .i64 0] 42)).alloc (.cells #[.slice none 0 0] 23)).alloc (.cells #[.slice (some ⟨b, off, none⟩) len cap] 22)).alloc (.cells #[.int .i64 60] 3)) :=
    (((((Below.refl _ w).alloc (Nat.le_refl _) _).alloc (by simp) _).alloc (by simp; omega) _).alloc (by simp; omega) _).alloc (by simp; omega) _
  have hsz : (((((w.alloc (.cells #[.slice none 0 0] 23)).alloc (.cells #[.int .i64 0] 42)).alloc (.cells #[.slice none 0 0] 23)).alloc (.cells #[.slice (some ⟨b, off, none⟩) len cap] 22)).alloc (.cells #[.int .i64 60] 3)).heap.size = w.heap.size + 5 := by simp
  simp only [World.size_alloc, Nat.add_assoc, Nat.reduceAdd] at b3 b4 b5 b6
  generalize (((((w.alloc (.cells #[.slice none 0 0] 23)).alloc (.cells #[.int .i64 0] 42)).alloc (.cells #[.slice none 0 0] 23)).alloc (.cells #[.slice (some ⟨b, off, none⟩) len cap] 22)).alloc (.cells #[.int .i64 60] 3)) = w5 at *
  obtain ⟨K, hK⟩ : ∃ K, (len + 59) / 60 = K := ⟨_, rfl⟩
  have hKK := Lib.hid hK
  refine wpIn_rangeFunc_ownG rfl (by omega) (gf := 86) (lb := #[.pointer (some ⟨w.heap.size + 3, 0, none⟩), .pointer (some ⟨w.heap.size + 4, 0, none⟩)]) rfl trivial (enters_of Tryz.func86 (by kernel_rfl) rfl)
    (chunk_stops Fence.wide (3 - 1) trivial rfl (by omega) (w.heap.size + 3) (w.heap.size + 4) b off len cap K hK.symm hlen hcap w5 b5 b6) chKp_t (chKp_b (by omega) (by omega)) (Below.refl _ _) (fun _ => rfl)
    (ChI l w.heap.size b off len cap w) (ChX l w.heap.size w) (chI_own (Nat.le_refl _) (by omega)) (fun c => chX_own c (Nat.le_refl _) (by omega))
    ⟨⟨_, b4, World.ownsRow_nil _ _ _ _, by simp⟩, ⟨⟨b2, b3⟩, ⟨b5, b6⟩⟩, hB0⟩
    (fun k => { tmps := #[.slice (some ⟨b, off, none⟩) len cap, undef, .pointer (some ⟨w.heap.size, 0, none⟩), .pointer (some ⟨w.heap.size + 1, 0, none⟩), .pointer (some ⟨w.heap.size + 2, 0, none⟩), partV b off len k, undef, undef, .slice (some ⟨b, off, none⟩) len cap, .func (.func 86) #[] #[.pointer (some ⟨w.heap.size + 3, 0, none⟩), .pointer (some ⟨w.heap.size + 4, 0, none⟩)], partV b off len k, undef, undef, undef, undef, undef, undef, undef, undef, undef, undef, undef, undef, undef], defers := [] }) ?assign ?body ?done ?stop
  case assign =>
    intro l x W K hK
    gi_wp2
    exact hK
  case body =>
    rintro y pre k W ⟨⟨v, hv, hrow, hG⟩, ⟨⟨hb2, hb3⟩, ⟨hb5, hb6⟩⟩, hB⟩ hlt
    obtain ⟨hr, hb, hll, hi⟩ := HL.out
    have hlay := lay_any (w := W) (v := partV b off len k) (l := partL l k) ⟨some ⟨b, off + 60 * k, none⟩, partN len k, by rw [List.length_map, length_partL, hll]; rfl, fun _ => ⟨b, off + 60 * k, rfl, Nat.lt_of_lt_of_le hb hB.size, fun j u hu => by
      have := hr (60 * k + j) u (part_at hu)
      rw [← Nat.add_assoc] at this
      exact (hB.cell (p := ⟨b, off + 60 * k + j, none⟩) hb).trans this⟩⟩ (by rw [length_partL, hll]; unfold partN; omega) (fun x hx => hi x (mem_part hx))
    have hBW := hB.size
    have hpl : pre.length ≤ 100000 := by have := hKK.out; omega
    have hc2 := hb2.cell
    by_cases hfit : ∀ x ∈ partL l k, fits x
    · have hlay1 : Calls Tryz.prog 28 #[partV b off len k] W fun e w' => e = .returned (.tuple #[.string (bodyOf (partL l k)), .int .i64 0]) ∧ Below W.heap.size W w' := hlay.mono (fun e w' h => by
        rcases h with ⟨⟨_, rfl⟩ | ⟨hn, _⟩, h2⟩
        · exact ⟨rfl, h2⟩
        · exact absurd hfit hn)
      obtain ⟨i0, hi0, hz0, hz1, hz2⟩ := info_parts Tryz.infoStr3
      have HP := Lib.hid (And.intro hG (And.intro hfit (And.intro hb2 (And.intro hb3 (And.intro hb5 (And.intro hb6 hB))))))
      clear hlay hG hfit hb2 hb3 hb5 hb6 hr hi hb hc2
      obtain ⟨bd, hbd⟩ : ∃ z, bodyOf (partL l k) = z := ⟨_, rfl⟩
      rw [hbd] at hlay1
      have HBD := Lib.hid hbd
      clear hbd
      unfold partV at hlay1 ⊢
      gi_wp2_with first
        | (refine ⟨trivial, ?_⟩; gi_at_call 28; refine (CallsIn.inRound y (callsIn_wide.2 hlay1)).mono ?_; rintro e w1 ⟨rfl, hb1⟩; have hv1 := boxed_below hv hb1; have hc1 := hv1.cell; have hrow1 := row_kept (F := []) hrow (Kept.of_below hb1) (fun g _ hF => by simp at hF); have hbw1 := Nat.le_trans hBW hb1.size)
        | (gi_at_builtin; refine wpListIn_append_own _ rfl _ _ 23 rfl w.heap.size 9 i0 (.string ⟨#[]⟩) 1 16 Tryz.underlying23 hi0 hz0 hz1 hz2 rfl (by decide) _ _ _ rfl (hrow1.alloc _) ⟨w1.heap.size, 0, none⟩ 1 1 [.string bd] rfl rfl (cell_one_new _ _ _) (by simp [Value.oneCell']) (by unfold maxLen; omega) (by omega) (by simp; omega) ?_; intro v' w2 hown' hgrow _; obtain ⟨g', cap', rfl⟩ := ownsRow_succ hown'; obtain ⟨q1, q2, q3, q4, q5⟩ := hv1.appended (by decide) hrow1 hbw1 (by omega) hown' hgrow; have hd1 := q1.cell; have hd2 := q1.frozen)
      obtain ⟨hG, hfit, hb2, hb3, hb5, hb6, hB⟩ := HP.out
      have o2 := box_thru (v' := .slice (some ⟨g', 0, none⟩) (pre.length + 1) cap') (B := w.heap.size + 2) (boxed_below hb2 hb1) hgrow ((boxed_below hb2 hb1).not_row (by decide) hrow1) (by omega)
      have o3 := box_thru (v' := .slice (some ⟨g', 0, none⟩) (pre.length + 1) cap') (B := w.heap.size + 2) (boxed_below hb3 hb1) hgrow ((boxed_below hb3 hb1).not_row (by decide) hrow1) (by omega)
      have o5 := box_thru (v' := .slice (some ⟨g', 0, none⟩) (pre.length + 1) cap') (B := w.heap.size + 2) (boxed_below hb5 hb1) hgrow ((boxed_below hb5 hb1).not_row (by decide) hrow1) (by omega)
      have o6 := box_thru (v' := .slice (some ⟨g', 0, none⟩) (pre.length + 1) cap') (B := w.heap.size + 2) (boxed_below hb6 hb1) hgrow ((boxed_below hb6 hb1).not_row (by decide) hrow1) (by omega)
      have hko : KeepsOthers W w1 := ⟨hb1.size, fun i o ho _ => (hb1.block i (Array.getElem?_eq_some_iff.1 ho).1).trans ho⟩
      refine ⟨(hko.trans q4).from _, ⟨Eq.trans o5 (Eq.symm hb5), Eq.trans o6 (Eq.symm hb6)⟩, ⟨_, q2, ?_, ?_⟩, ⟨⟨o2, o3⟩, ⟨o5, o6⟩⟩, hB.trans ((hb1.mono hBW).trans q5)⟩
      · simpa [HBD.out] using q3
      · intro i hi
        rcases List.mem_append.1 hi with h | h
        · exact hG i h
        · obtain rfl : i = k := by simpa using h
          exact hfit
    · have hlay1 : Calls Tryz.prog 28 #[partV b off len k] W fun e w' => e = .returned (.tuple #[.string ⟨#[]⟩, .int .i64 1]) ∧ Below W.heap.size W w' := hlay.mono (fun e w' h => by
        rcases h with ⟨⟨hn, _⟩ | ⟨_, rfl⟩, h2⟩
        · exact absurd hn hfit
        · exact ⟨rfl, h2⟩)
      have HP := Lib.hid (And.intro hfit hB)
      clear hlay hG hfit hb5 hb6 hr hi hb hc2 hB hv hrow
      unfold partV at hlay1 ⊢
      gi_wp2_with (refine ⟨trivial, ?_⟩; gi_at_call 28; refine (CallsIn.inRound y (callsIn_wide.2 hlay1)).mono ?_; rintro e w1 ⟨rfl, hb1⟩; have p2 := boxed_below hb2 hb1; have p3 := boxed_below hb3 hb1; have d2 := p2.cell; have e2 := p2.frozen; have d3 := p3.cell; have e3 := p3.frozen)
      obtain ⟨hfit, hB⟩ := HP.out
      have hko : KeepsOthers W w1 := ⟨hb1.size, fun i o ho _ => (hb1.block i (Array.getElem?_eq_some_iff.1 ho).1).trans ho⟩
      have o2 := (p2.set (.slice none 0 0)).kept (grownBy_setCell' _ (w.heap.size + 1) (.int .i64 1)) (by simp)
      have o3 := (p3.kept (grownBy_setCell' w1 w.heap.size (.slice none 0 0)) (by simp)).set (.int .i64 1)
      refine ⟨((hko.trans (KeepsOthers.setCell _ _ _)).trans (KeepsOthers.setCell _ _ _)).from _, ⟨⟨rfl, k, by simp, hfit⟩, o2, o3⟩, ?_⟩
      exact ((hB.trans (hb1.mono hBW)).setCell (p := ⟨w.heap.size, 0, none⟩) (Nat.le_refl _) _).setCell (p := ⟨w.heap.size + 1, 0, none⟩) (by simp) _
  case done =>
    rintro D ys W hD rfl ⟨⟨v, hv, hrow, hG⟩, ⟨⟨hb2, hb3⟩, _⟩, hB⟩ hK
    rw [List.length_range] at hrow
    obtain ⟨A, c, hvf⟩ := rform3 hrow
    have hc4 := hv.cell
    have hc2 := hb2.cell
    have hf2 := hb2.frozen
    have hc3 := hb3.cell
    have hf3 := hb3.frozen
    subst hvf
    have HD := Lib.hid (And.intro hG (And.intro hb2 (And.intro hb3 (And.intro hB hrow))))
    clear hG hb2 hb3 hB hrow hv
    gi_wp2
    obtain ⟨hG, hb2, hb3, hB, hrow⟩ := HD.out
    have hK2 : ((W.setCell ⟨w.heap.size, 0, none⟩ (.slice A K c)).setCell ⟨w.heap.size + 1, 0, none⟩ (.int .i64 0)).heap[D]? = some (.deferred (some [])) :=
      (Below.heap_setCell _ ⟨w.heap.size + 1, 0, none⟩ _ _ (by show D ≠ w.heap.size + 1; omega)).trans ((Below.heap_setCell W ⟨w.heap.size, 0, none⟩ _ _ (by show D ≠ w.heap.size; omega)).trans hK)
    have o2 := ((hb2.set (.slice A K c)).kept (grownBy_setCell' _ (w.heap.size + 1) (.int .i64 0)) (by simp)).kept (grownBy_putObj' _ D (.deferred none)) (by simp; omega)
    have o3 := ((hb3.kept (grownBy_setCell' W w.heap.size (.slice A K c)) (by simp)).set (.int .i64 0)).kept (grownBy_putObj' _ D (.deferred none)) (by simp; omega)
    have r1 := hrow.kept (grownBy_setCell' W w.heap.size (.slice A K c)) (.inr (hb2.not_row (by decide) hrow).symm)
    have r2 := r1.kept (grownBy_setCell' _ (w.heap.size + 1) (.int .i64 0)) (.inr (hb3.not_row (by decide) hrow).symm)
    have r3 := ownsRow_putObj r2 (.deferred none) hK2 rfl
    have x2 := o2.cell
    have x3 := o3.cell
    refine ⟨by simp, .inl ⟨_, _, rfl, run_takeDeferred hK2, ?_⟩⟩
    refine ⟨.tuple #[.slice A K c, .int .i64 0], ?_, .inl ⟨?_, _, rfl, ?_⟩, ?_⟩
    · simp [results, Tryz.f8, go_sem, x2, x3]
    · intro x hx
      obtain ⟨k, hk, hxk⟩ := part_mem hx
      have hll := HL.out.2.2.1
      exact hG k (List.mem_range.2 (by have := hKK.out; rw [hll] at hk; omega)) x hxk
    · unfold TxRow
      rw [hKK.out, List.length_map, List.length_range]
      exact r3
    · exact ((hB.setCell (p := ⟨w.heap.size, 0, none⟩) (Nat.le_refl _) _).setCell (p := ⟨w.heap.size + 1, 0, none⟩) (by simp) _).trans (belowK_b (w := w) (Nat.le_refl _) _ D _ _ (by omega) hK2 rfl rfl)
  case stop =>
    rintro D c pre W hD ⟨k, hk, rfl⟩ ⟨⟨⟨rfl, i, hi, hno⟩, hb2, hb3⟩, hB⟩ hK
    have hc2 := hb2.cell
    have hc3 := hb3.cell
    gi_wp2
    have o2 := hb2.kept (grownBy_putObj' _ D (.deferred none)) (by simp; omega)
    have o3 := hb3.kept (grownBy_putObj' _ D (.deferred none)) (by simp; omega)
    have x2 := o2.cell
    have x3 := o3.cell
    refine ⟨by simp, .inl ⟨_, _, rfl, run_takeDeferred hK, ?_⟩⟩
    refine ⟨.tuple #[.slice none 0 0, .int .i64 1], ?_, .inr ⟨fun h => hno (fun x hx => h x (mem_part hx)), rfl⟩, ?_⟩
    · simp [results, Tryz.f8, go_sem, x2, x3]
    · exact hB.trans (belowK_b (w := w) (Nat.le_refl _) _ D _ _ (by omega) hK rfl rfl)
end Go.Proofs.YtlalhinodmmgfaaGreat
