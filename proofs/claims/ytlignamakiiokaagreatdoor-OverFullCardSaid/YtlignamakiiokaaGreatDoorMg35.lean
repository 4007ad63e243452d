/-
  A []string of the call's own, and append of one text to it. The pieces of a value: over's Cut.
-/
import Derived.Test.YtlignamakiiokaaGreatDoorMg13
import Derived.Test.YtlignamakiiokaaGreatDoorMg2
import Derived.Test.YtlignamakiiokaaGreatDoorMg1
namespace Go.Proofs.YtlignamakiiokaaGreatDoor
open Go.RowKit

theorem Tryz.infoStr3 : (Tryz.prog.info? 9).map (fun i => (i.zero, i.size, i.bytes)) = some (some (.string ⟨#[]⟩), 1, 16) := by kernel_rfl

/-- v is a []string of the call's own, from block base on, that holds the texts l. -/
def TxRow (w : World) (base : Nat) (v : Value) (l : List ByteArray) : Prop := w.ownsRow base 9 1 v l.length (l.map Value.string)

/-- append(l, x) of one's own []string. -/
theorem append_txt {ops : Array Oper} {rest : List Oper} {o : Oper} {a : Act} {Q : Exit → Act → World → Prop} (hgd : o.guard = none) (s x : Operand)
    (ho : o.op = .call { callee := .builtin .append, args := #[s, x], argTypes := #[56, 56] })
    (base : Nat) (wr : World) (bv : Value) (m : List ByteArray) (hs : a.eval s = bv) (hrow : TxRow wr base bv m) (y : ByteArray) (hx : a.eval x = .slice (some ⟨wr.heap.size, 0, none⟩) 1 1)
    (hlen : m.length ≤ 1000000) (hbase : base ≤ wr.heap.size)
    (h : ∀ v' w', TxRow w' base v' (m ++ [y]) → Below base wr w' → wpList Tryz.prog ops Q rest (a.put o.dst v') w') : wpList Tryz.prog ops Q (o :: rest) a (wr.alloc (.cells #[.string y] 9)) := by
  obtain ⟨i0, hi, hz0, hz1, hz2⟩ := info_parts Tryz.infoStr3
  have hra : TxRow (wr.alloc (.cells #[.string y] 9)) base bv m := World.ownsRow.alloc hrow _
  refine wpList_append_own _ hgd s x 56 ho base 9 i0 (.string ⟨#[]⟩) 1 16 Tryz.underlying56 hi hz0 hz1 hz2 rfl (by decide) _ _ _ hs hra ⟨wr.heap.size, 0, none⟩ 1 1 [.string y] hx rfl
    (cell_one_new _ _ _) (by intro u hu; simp at hu; subst hu; rfl) (by unfold maxLen; omega) (by omega) (by simp; omega) ?_
  intro v' w' h1 h2 _
  refine h v' w' ?_ (((Below.refl base wr).alloc hbase _).trans ((Below.refl base _).grown h2 (by simp; omega) (fun k hk => (World.ownsRow.lt hra k hk).1)))
  unfold TxRow
  rw [List.length_append, List.map_append]
  exact h1

theorem rform3 {w : World} {base : Nat} {e : TypeId} {k : Nat} {v : Value} {n : Nat} {xs : List Value} (h : w.ownsRow base e k v n xs) : ∃ A c, v = .slice A n c := by
  rcases h.2 with ⟨rfl, rfl⟩ | ⟨g, cap, cur, rfl, _⟩
  · exact ⟨none, 0, rfl⟩
  · exact ⟨_, _, rfl⟩

end Go.Proofs.YtlignamakiiokaaGreatDoor

namespace Go.Proofs.YtlignamakiiokaaGreatDoor
open Go.RowKit Go.Lib

/-- How many pieces n bytes have, the k-th piece of s, and all of them. -/
def nP (n : Nat) : Nat := (n + 239) / 240
def pce (s : ByteArray) (k : Nat) : ByteArray := s.extract (240 * k) (min (240 * k + 240) s.size)
def cutL (s : ByteArray) : List ByteArray := (List.range (nP s.size)).map (pce s)
theorem cutL_length (s : ByteArray) : (cutL s).length = nP s.size := by simp [cutL]
theorem pce_size (s : ByteArray) (k : Nat) (h : k < nP s.size) : (pce s k).size = min (s.size - 240 * k) 240 := by
  unfold nP at h
  unfold pce
  rw [ByteArray.size_extract]
  omega

set_option maxRecDepth 100000 in
set_option maxHeartbeats 1000000 in
theorem cut_any (s : ByteArray) (hs : s.size ≤ 100000) (w : World) :
    Calls Tryz.prog 12 #[.string s] w fun e w' => ∃ v, e = .returned v ∧ TxRow w' w.heap.size v (cutL s) ∧ Below w.heap.size w w' := by
  obtain ⟨K, hK⟩ : ∃ K, nP s.size = K := ⟨_, rfl⟩
  have hKS : K = (s.size + 239) / 240 := hK.symm
  obtain ⟨N, hN⟩ : ∃ N, s.size = N := ⟨_, rfl⟩
  have HK := Lib.hid (And.intro hK (And.intro hN hs))
  rw [hN] at hKS hs
  have HKS := Lib.hid hKS
  clear hK hKS hN
  go_enter Tryz.func12, Tryz.ntmps12
  go_wp2_with fail
  go_loopg [3, 4] K (fun g lv iv wr => ∃ j a : Nat, iv = .int .i64 a ∧ a = 240 * j ∧ j + g = K ∧ TxRow wr w.heap.size lv ((List.range j).map (pce s)) ∧ Below w.heap.size w wr)
  case atStart => exact ⟨0, 0, rfl, rfl, by omega, World.ownsRow_nil _ _ _ _, Below.refl _ _⟩
  case round =>
    obtain ⟨j, a, rfl, ha, hjg, hrow, hbl⟩ := hrel
    have hN := HK.out.2.1
    have hKS := HKS.out
    by_cases hlt : j < K
    · have haN : a < N := by omega
      obtain ⟨b, hb⟩ : ∃ b, min (a + 240) N = b := ⟨_, rfl⟩
      have hab : a ≤ b := by omega
      have hbN : b ≤ N := by omega
      have g1 : a < s.size := by omega
      have g2 : min ((a : Int) + 240) (s.size : Int) = (b : Int) := by omega
      have g3 : b ≤ s.size := by omega
      have hpc : pce s j = s.extract a b := by unfold pce; rw [← ha, hN, hb]
      have hpz : (s.extract a b).size ≤ 281474976710656 := by rw [ByteArray.size_extract]; omega
      obtain ⟨x, hx⟩ : ∃ x, s.extract a b = x := ⟨_, rfl⟩
      rw [hx] at hpz hpc
      have ha5 : (a : Int) ≤ 100000 := by omega
      have hcl := tclone_any x hpz wr
      have HR := Lib.hid (And.intro hpc (And.intro hrow (And.intro hbl (And.intro ha (And.intro hjg hb)))))
      have hlen : ((List.range j).map (pce s)).length ≤ 1000000 := by simp; omega
      clear hpc hrow hbl ha hjg hb hN hKS haN
      go_wp2_with fail
      refine hcl.mono ?_
      rintro e w1 ⟨rfl, hb1⟩
      have hbl := HR.out.2.2.1
      have hrow1 : TxRow w1 w.heap.size u3 ((List.range j).map (pce s)) := row_kept (F := []) HR.out.2.1 (Kept.of_below hb1) (fun g _ hF => by simp at hF)
      have HB1 := Lib.hid (hbl.trans (hb1.mono hbl.size))
      have hbs := HB1.out.size
      clear hb1 hcl hbl
      go_wp2_with (at_builtin; refine append_txt rfl _ _ rfl w.heap.size w1 u3 _ rfl hrow1 x rfl hlen hbs ?_; intro v2 w2 hr2 hb2)
      go_roundg (K - (j + 1))
      case measure => have := HR.out.2.2.2.2.1; omega
      case rel =>
        refine ⟨j + 1, a + 240, by go_num, by have := HR.out.2.2.2.1; omega, by omega, ?_, HB1.out.trans hb2⟩
        rw [List.range_succ, List.map_append, List.map_singleton, HR.out.1]
        exact hr2
    · obtain rfl : j = K := by omega
      have g1 : ¬ (a < s.size) := by omega
      obtain ⟨A, c, hform⟩ := rform3 hrow
      subst hform
      have HR := Lib.hid (And.intro hrow hbl)
      clear hrow hbl ha hN hKS hlt hjg
      go_wp2_with fail
      go_ret
      refine ⟨_, rfl, ?_, HR.out.2⟩
      unfold cutL
      rw [HK.out.1]
      exact HR.out.1
end Go.Proofs.YtlignamakiiokaaGreatDoor
