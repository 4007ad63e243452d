/-
  slices.Backward of texts: its closure, for every loop body that keeps what it reads.
-/
import Derived.Test.YtlignamakiiokaaGreatDoorMg1
import Derived.RangeFuncNested
import Derived.RangeFuncBound
import Derived.RangeFuncCalls
import Derived.RangeFuncLeaves
import Derived.RangeFuncBox
import Derived.Shelf.Abstract
import Derived.Shelf.RegionOpen
import Derived.OwnWalkIn
import Derived.TacticsInMore
import Derived.LoopNIn
import Derived.LoopIn
import Derived.Sort.QuietIn
namespace Go.Proofs.YtlignamakiiokaaGreatDoor
open Go.RowKit Go.Lib Go.Shelf

attribute [local go_sem] Oper.semAt_some

/-- The places of a slice from its last one on, j of them. -/
def backL (len j : Nat) : List Nat := (List.range j).map fun i => len - 1 - i
theorem backL_succ (len j : Nat) : backL len (j + 1) = backL len j ++ [len - 1 - j] := by simp [backL, List.range_succ]
theorem backL_length (len j : Nat) : (backL len j).length = j := by simp [backL]

/-- In block g, from off on, stand so many texts. -/
def TextsIn (g off len : Nat) (S : Nat → ByteArray) (W : World) : Prop := ∀ i, i < len → W.cell? ⟨g, off + i, none⟩ = some (.string (S i))
theorem TextsIn.kept {g off len : Nat} {S : Nat → ByteArray} {W W' : World} (h : TextsIn g off len S W) (hg : W'.heap[g]? = W.heap[g]?) : TextsIn g off len S W' := fun i hi => by
  rw [← h i hi]
  simp only [World.cell?]
  rw [hg]

set_option maxRecDepth 100000 in
set_option maxHeartbeats 2000000 in
theorem back1_in (F : Fence) (n : Nat) (hf : F.fn 116) (hro : F.round = none) (hn : 1 ≤ n) (y Bs g off len cap : Nat) (S : Nat → ByteArray) (hlen : len ≤ 100000) (J Jx : List Nat → World → Prop) (_hJd : ∀ pre W q, J pre W → J pre (W.drewN q))
    (hY : ∀ pre (k : Nat) W, J pre W → pre.length < len → YieldAt F (n - 1) Tryz.prog y #[.int .i64 k, .string (S k)] W fun e W' =>
      (e = .returned (.bool true) ∧ J (pre ++ [k]) W' ∧ W'.heap[Bs]? = W.heap[Bs]? ∧ W'.heap[g]? = W.heap[g]?) ∨ (e = .returned (.bool false) ∧ Jx (pre ++ [k]) W'))
    (W : World) (hBs : W.heap[Bs]? = some (.cells #[.slice (some ⟨g, off, none⟩) len cap] 56 (0, 0))) (hg : TextsIn g off len S W) (h0 : J [] W) :
    CallsIn F n Tryz.prog 116 #[.func (.yield y) #[] #[], .pointer (some ⟨Bs, 0, none⟩)] W fun e W' => (∃ v, e = .returned v) ∧ (J (backL len len) W' ∨ ∃ k, k ≤ len ∧ Jx (backL len k) W') := by
  cases F
  simp only at hro
  subst hro
  refine callsIn_of_wp Tryz.func116 rfl hf ?_ rfl
  simp only [Tryz.ntmps116, List.size_toArray, List.length_cons, List.length_nil, Nat.reduceAdd, Nat.reduceSub, Array.replicate_succ, Array.replicate_zero, List.push_toArray, List.append_toArray, List.nil_append, List.cons_append]
  have c1 : W.cell? ⟨Bs, 0, none⟩ = some (.slice (some ⟨g, off, none⟩) len cap) := by simp [World.cell?, hBs]
  have HB := Lib.hid (And.intro hBs hg)
  clear hBs hg
  gi_wp2
  gi_loopw [3] (fun i wr => ∃ j : Nat, j ≤ len ∧ i = .int .i64 ((len : Int) - 1 - j) ∧ J (backL len j) wr ∧ wr.heap[Bs]? = some (.cells #[.slice (some ⟨g, off, none⟩) len cap] 56 (0, 0)) ∧ TextsIn g off len S wr)
    (fun i _ => (intOf i + 1).toNat)
  case atStart => exact ⟨0, Nat.zero_le _, by go_num, h0, HB.out.1, HB.out.2⟩
  case round =>
    obtain ⟨j, hj, rfl, hJs, hBs, hg⟩ := hrel
    have c1 : wr.cell? ⟨Bs, 0, none⟩ = some (.slice (some ⟨g, off, none⟩) len cap) := by simp [World.cell?, hBs]
    by_cases hlt : j < len
    · obtain ⟨k, hk⟩ : ∃ k : Nat, len - 1 - j = k := ⟨_, rfl⟩
      have hki : (len : Int) - 1 - j = (k : Int) := by omega
      have hkl : k < len := by omega
      have hc := hg k hkl
      have hk0 : (0 : Int) ≤ (k : Int) := by omega
      have hk1 : (k : Int) < (len : Int) := by omega
      have hbk : backL len (j + 1) = backL len j ++ [k] := by rw [backL_succ, hk]
      have hjb : (backL len j).length < len := by rw [backL_length]; exact hlt
      rw [hki]
      have HK := Lib.hid (And.intro hk (And.intro hki (And.intro hbk (And.intro hBs (And.intro hg hj)))))
      have hkb : k ≤ 100000 := by omega
      clear hk hki hbk hBs hg hj hlt
      obtain ⟨fn, tmps, assign, body, hy, hR⟩ := hY _ k wr hJs hjb
      gi_wp2
      refine hR.mono ?_
      rintro e W3 (⟨rfl, hJ3, g1, g2⟩ | ⟨rfl, hJx3⟩)
      · obtain ⟨hk, hki, hbk, hBs, hg, hj⟩ := HK.out
        have HG := Lib.hid (And.intro hJ3 (And.intro (g1.trans hBs) (hg.kept g2)))
        clear hJ3 g1 g2 hBs hg hk hki hbk hj
        gi_wp2
        go_roundw
        case rel => exact ⟨j + 1, by rw [backL_length] at hjb; omega, by have := HK.out.2.1; go_num, by rw [HK.out.2.2.1]; exact HG.out.1, HG.out.2.1, HG.out.2.2⟩
        case measure => simp [intOf]
      · gi_wp2
        refine bodyPost_ret (results_none rfl _ _ _) rfl ?_
        refine ⟨⟨_, rfl⟩, .inr ⟨j + 1, by rw [backL_length] at hjb; omega, ?_⟩⟩
        rw [HK.out.2.2.1]
        exact hJx3
    · obtain rfl : j = len := by omega
      have hd : decide ((j : Int) - 1 - j ≥ 0) = false := by simp; omega
      gi_wp2
      go_end0
      exact ⟨⟨_, rfl⟩, .inl hJs⟩

/-- What a round that goes on keeps: the box and the row that the closure reads. -/
def BkKp (Bs g : Nat) (A B : World) : Prop := B.heap[Bs]? = A.heap[Bs]? ∧ B.heap[g]? = A.heap[g]?
theorem bkKp_t {Bs g : Nat} {A B C : World} (h : BkKp Bs g A B) (k : BkKp Bs g B C) : BkKp Bs g A C := ⟨k.1.trans h.1, k.2.trans h.2⟩
theorem bkKp_b {Bs g : Nat} {w : World} (h1 : Bs < w.heap.size) (h2 : g < w.heap.size) (W : World) (l : Nat) (o o' : Obj) (hl : w.heap.size ≤ l) (_ : W.heap[l]? = some o) (_ : o.isCells = false) (_ : o.isWalk = false) : BkKp Bs g W (W.putObj l o') :=
  ⟨World.putObj_heap_other (by omega), World.putObj_heap_other (by omega)⟩

theorem back_stops (F : Fence) (n : Nat) (hf : F.fn 116) (hro : F.round = none) (hn : 1 ≤ n) (Bs g off len cap : Nat) (S : Nat → ByteArray) (hlen : len ≤ 100000) (w : World)
    (hBs : Boxed w Bs 56 (.slice (some ⟨g, off, none⟩) len cap)) (hgl : g < w.heap.size) (hg : TextsIn g off len S w) :
    SeqStopsK F n Tryz.prog 116 #[.pointer (some ⟨Bs, 0, none⟩)] (fun k : Nat => #[.int .i64 k, .string (S k)]) (BkKp Bs g) (fun ys => ys = backL len len) (fun pre => ∃ k, k ≤ len ∧ pre = backL len k) len w := by
  intro l J Jx W hW hJ _ hY h0
  refine (back1_in F n hf hro hn l Bs g off len cap S hlen J Jx (fun pre W q h => hJ pre W _ none h ⟨rfl, rfl, rfl, Nat.le_refl _, fun _ _ _ => rfl⟩ (fun r e => by cases e)) hY W ((hW.block Bs hBs.lt).trans hBs) (hg.kept (hW.block g hgl)) h0).mono ?_
  rintro e W' ⟨he, h | ⟨k, hk, h⟩⟩
  · exact ⟨he, .inl ⟨_, rfl, h⟩⟩
  · exact ⟨he, .inr ⟨_, ⟨k, hk, rfl⟩, h⟩⟩

set_option maxRecDepth 100000 in
set_option maxHeartbeats 1000000 in
theorem back_in (F : Fence) (n : Nat) (hf : F.fn 46) (hro : F.round = none) (a : Option Addr) (len cap : Nat) (w : World) :
    CallsIn F n Tryz.prog 46 #[.slice a len cap] w fun e w' => e = .returned (.func (.func 116) #[] #[.pointer (some ⟨w.heap.size, 0, none⟩)]) ∧ w' = w.alloc (.cells #[.slice a len cap] 56) := by
  cases F
  simp only at hro
  subst hro
  refine callsIn_of_wp Tryz.func46 rfl hf ?_ rfl
  simp only [Tryz.ntmps46, List.size_toArray, List.length_cons, List.length_nil, Nat.reduceAdd, Nat.reduceSub, Array.replicate_succ, Array.replicate_zero, List.push_toArray, List.append_toArray, List.nil_append, List.cons_append]
  gi_wp2
  go_ret
  exact ⟨rfl, rfl⟩
end Go.Proofs.YtlignamakiiokaaGreatDoor
