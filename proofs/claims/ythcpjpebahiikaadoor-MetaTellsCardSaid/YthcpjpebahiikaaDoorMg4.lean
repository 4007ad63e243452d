/-
  A []string of the call's own, and append of one text to it. The document's own device, of two pages at most: what it is, and what it answers.
-/
import Derived.Test.YthcpjpebahiikaaDoorMg3
import Derived.Test.YthcpjpebahiikaaDoorMg2
import Derived.Deep.LoopGhost
namespace Go.Proofs.YthcpjpebahiikaaDoor
open Go.RowKit

theorem Tryd.infoStr3 : (Tryd.prog.info? 9).map (fun i => (i.zero, i.size, i.bytes)) = some (some (.string ⟨#[]⟩), 1, 16) := by kernel_rfl

/-- v is a []string of the call's own, from block base on, that holds the texts l. -/
def TxRow (w : World) (base : Nat) (v : Value) (l : List ByteArray) : Prop := w.ownsRow base 9 1 v l.length (l.map Value.string)

/-- append(l, x) of one's own []string. -/
theorem append_txt {ops : Array Oper} {rest : List Oper} {o : Oper} {a : Act} {Q : Exit → Act → World → Prop} (hgd : o.guard = none) (s x : Operand)
    (ho : o.op = .call { callee := .builtin .append, args := #[s, x], argTypes := #[57, 57] })
    (base : Nat) (wr : World) (bv : Value) (m : List ByteArray) (hs : a.eval s = bv) (hrow : TxRow wr base bv m) (y : ByteArray) (hx : a.eval x = .slice (some ⟨wr.heap.size, 0, none⟩) 1 1)
    (hlen : m.length ≤ 1000000) (hbase : base ≤ wr.heap.size)
    (h : ∀ v' w', TxRow w' base v' (m ++ [y]) → Below base wr w' → wpList Tryd.prog ops Q rest (a.put o.dst v') w') : wpList Tryd.prog ops Q (o :: rest) a (wr.alloc (.cells #[.string y] 9)) := by
  obtain ⟨i0, hi, hz0, hz1, hz2⟩ := info_parts Tryd.infoStr3
  have hra : TxRow (wr.alloc (.cells #[.string y] 9)) base bv m := World.ownsRow.alloc hrow _
  refine wpList_append_own _ hgd s x 57 ho base 9 i0 (.string ⟨#[]⟩) 1 16 Tryd.underlying57 hi hz0 hz1 hz2 rfl (by decide) _ _ _ hs hra ⟨wr.heap.size, 0, none⟩ 1 1 [.string y] hx rfl
    (cell_one_new _ _ _) (by intro u hu; simp at hu; subst hu; rfl) (by unfold maxLen; omega) (by omega) (by simp; omega) ?_
  intro v' w' h1 h2 _
  refine h v' w' ?_ (((Below.refl base wr).alloc hbase _).trans ((Below.refl base _).grown h2 (by simp; omega) (fun k hk => (World.ownsRow.lt hra k hk).1)))
  unfold TxRow
  rw [List.length_append, List.map_append]
  exact h1

theorem rform3 {w : World} {base : Nat} {e : TypeId} {k : Nat} {v : Value} {n : Nat} {xs : List Value} (h : w.ownsRow base e k v n xs) : ∃ A c, v = .slice A n c := by
  rcases h.2 with ⟨rfl, rfl⟩ | ⟨g, cap, cur, rfl, _⟩
  · exact ⟨none, 0, rfl⟩
  · exact ⟨_, _, rfl⟩

end Go.Proofs.YthcpjpebahiikaaDoor

namespace Go.Proofs.YthcpjpebahiikaaDoor
open Go.RowKit Go.Lib

def rdV (lv wv : Value) : Array Value := #[.int .i64 2, .bool true, lv, wv, .int .i64 (-1)]
def wcells (Ws : List (Int × ByteArray)) : List Value := Ws.flatMap fun x => [.int .i64 x.1, .string x.2]
theorem wcells_at {Ws : List (Int × ByteArray)} {i : Nat} (h : i < Ws.length) : (wcells Ws)[2 * i]? = some (.int .i64 Ws[i].1) ∧ (wcells Ws)[2 * i + 1]? = some (.string Ws[i].2) := by
  induction Ws generalizing i with
  | nil => simp at h
  | cons x r ih =>
    cases i with
    | zero => exact ⟨rfl, rfl⟩
    | succ i =>
      obtain ⟨h1, h2⟩ := ih (i := i) (by simpa using h)
      refine ⟨?_, ?_⟩
      · rw [show 2 * (i + 1) = 2 * i + 2 by omega]
        simpa [wcells] using h1
      · rw [show 2 * (i + 1) + 1 = 2 * i + 1 + 2 by omega]
        simpa [wcells] using h2
theorem wcells_length (Ws : List (Int × ByteArray)) : (wcells Ws).length = Ws.length * 2 := by
  induction Ws with
  | nil => rfl
  | cons x r ih =>
    show (wcells r).length + 2 = (r.length + 1) * 2
    omega

/-- At q stands the document's own device with the pages Ls, of which Ws were written since. -/
structure RD (base : Nat) (W : World) (q : Nat) (lv wv : Value) (Ls : List ByteArray) (Ws : List (Int × ByteArray)) : Prop where
  has : Has W q 65 (rdV lv wv)
  pages : W.ownsRow base 9 1 lv Ls.length (Ls.map Value.string)
  writes : W.ownsRow base 74 2 wv Ws.length (wcells Ws)
  few : Ls.length ≤ 2 ∧ Ws.length ≤ 2
theorem RD.kept {base q : Nat} {W W' : World} {lv wv : Value} {Ls : List ByteArray} {Ws : List (Int × ByteArray)} {G : List Nat} (h : RD base W q lv wv Ls Ws) (hk : Kept G W W') (h1 : q ∉ G) (h2 : ∀ g, lv.ownBlock = some g → g ∉ G) (h3 : ∀ g, wv.ownBlock = some g → g ∉ G) : RD base W' q lv wv Ls Ws :=
  ⟨h.has.kept hk h1, row_kept h.pages hk h2, row_kept h.writes hk h3, h.few⟩
theorem RD.below {base q : Nat} {W W' : World} {lv wv : Value} {Ls : List ByteArray} {Ws : List (Int × ByteArray)} (h : RD base W q lv wv Ls Ws) (hb : Below W.heap.size W W') : RD base W' q lv wv Ls Ws := h.kept (G := []) (Kept.of_below hb) (by simp) (by simp) (by simp)

/-- A page as it is now. -/
def nowW (s : ByteArray) (i : Int) : List (Int × ByteArray) → ByteArray
  | [] => s
  | x :: r => nowW (if x.1 = i then x.2 else s) i r
theorem nowW_snoc (s : ByteArray) (i : Int) (l : List (Int × ByteArray)) (x : Int × ByteArray) : nowW s i (l ++ [x]) = if x.1 = i then x.2 else nowW s i l := by
  induction l generalizing s with
  | nil => rfl
  | cons y r ih => exact ih _

section
variable {base q : Nat} {W : World} {lv wv : Value} {Ls : List ByteArray} {Ws : List (Int × ByteArray)}

set_option maxRecDepth 100000 in
set_option maxHeartbeats 2000000 in
theorem rnow_any (h : RD base W q lv wv Ls Ws) (i : Nat) (hi : i < Ls.length) :
    Calls Tryd.prog 54 #[.pointer (some ⟨q, 0, none⟩), .int .i64 i] W fun e w' => e = .returned (.string (nowW Ls[i] i Ws)) ∧ W = w' := by
  obtain ⟨A, c, hlv⟩ := rform3 h.pages
  obtain ⟨Aw, cw, hwv⟩ := rform3 h.writes
  obtain ⟨g, cap, cur, hg, -, hgc, -, -, -, hgt⟩ : ∃ g cap cur, lv = .slice (some ⟨g, 0, none⟩) Ls.length cap ∧ base ≤ g ∧ W.heap[g]? = some (.cells cur 9 (0, 0)) ∧ Ls.length ≤ cap ∧ cap ≤ maxLen ∧ cur.size = cap * 1 ∧ cur.toList.take (Ls.length * 1) = Ls.map Value.string := by
    rcases h.pages.2 with ⟨_, h0⟩ | h0
    · omega
    · exact h0
  have hpc : W.cell? ⟨g, i, none⟩ = some (.string Ls[i]) := by
    rw [Has.cell (show Has W g _ cur from hgc) i]
    have e1 : (cur.toList.take (Ls.length * 1))[i]? = some (Value.string Ls[i]) := by
      rw [hgt, List.getElem?_map, List.getElem?_eq_getElem hi]
      rfl
    rw [List.getElem?_take, if_pos (by omega)] at e1
    simpa using e1
  have hwc : ∀ j (hj : j < Ws.length), ∃ gw, Aw = some ⟨gw, 0, none⟩ ∧ W.cell? ⟨gw, j * 2, none⟩ = some (.int .i64 Ws[j].1) ∧ W.cell? ⟨gw, j * 2 + 1, none⟩ = some (.string Ws[j].2) := fun j hj => by
    rcases h.writes.2 with ⟨_, h0⟩ | ⟨gw, capw, curw, hgw, _, hgcw, _, _, _, hgtw⟩
    · omega
    · rw [hwv] at hgw
      cases hgw
      have hk : ∀ k u, (wcells Ws)[k]? = some u → W.cell? ⟨gw, k, none⟩ = some u := fun k u hu => by
        rw [Has.cell (show Has W gw _ curw from hgcw) k]
        have hkl := (List.getElem?_eq_some_iff.1 hu).1
        rw [wcells_length] at hkl
        rw [← hgtw, List.getElem?_take, if_pos (by omega)] at hu
        simpa using hu
      obtain ⟨h1, h2⟩ := wcells_at hj
      rw [Nat.mul_comm] at h1 h2
      exact ⟨gw, rfl, hk _ _ h1, hk _ _ h2⟩
  have c2 := h.has.cell 2
  have c3 := h.has.cell 3
  simp [rdV] at c2 c3
  subst hwv
  rw [hg] at c2
  obtain ⟨n, hn⟩ : ∃ n, Ws.length = n := ⟨_, rfl⟩
  obtain ⟨m, hm⟩ : ∃ m, Ls.length = m := ⟨_, rfl⟩
  have hn2 : n ≤ 2 := by rw [← hn]; exact h.few.2
  have hi0 : (0 : Int) ≤ (i : Int) := by omega
  have hi1 : (i : Int) < (m : Int) := by omega
  have hib : i ≤ 2 := by have := h.few.1; omega
  have HW := Lib.hid (And.intro hwc hn)
  rw [hn] at c3
  rw [hm] at c2
  obtain ⟨s0, hs0⟩ : ∃ s0, Ls[i] = s0 := ⟨_, rfl⟩
  rw [hs0] at hpc ⊢
  clear h hwc hn hm hgc hgt hg hs0
  go_enter Tryd.func54, Tryd.ntmps54
  go_wp2_with fail
  go_loopg [5, 6] n (fun g sv iv wr => ∃ j : Nat, iv = .int .i64 j ∧ j + g = n ∧ sv = .string (nowW s0 i (Ws.take j)) ∧ W = wr)
  case atStart => exact ⟨0, rfl, by omega, rfl, rfl⟩
  case round =>
    obtain ⟨j, rfl, hjn, rfl, rfl⟩ := hrel
    by_cases hlt : j < n
    · have hjl : j < Ws.length := by rw [HW.out.2]; exact hlt
      obtain ⟨gw, rfl, k1, k2⟩ := HW.out.1 j hjl
      have htk : Ws.take (j + 1) = Ws.take j ++ [Ws[j]] := List.take_succ_eq_append_getElem hjl
      have hnx := nowW_snoc s0 i (Ws.take j) Ws[j]
      rw [← htk] at hnx
      generalize Ws[j] = x at *
      obtain ⟨a, d⟩ := x
      simp only at k1 k2 hnx
      have d1 : (j : Int) < (n : Int) := by omega
      have d0 : (0 : Int) ≤ (j : Int) := by omega
      generalize nowW s0 i (Ws.take j) = s1 at *
      have HN := Lib.hid (And.intro hnx hjn)
      clear hnx htk hjn
      by_cases he : a = (i : Int)
      · have e1 : (a == (i : Int)) = true := by simpa using he
        have HE := Lib.hid he
        clear he
        go_wp2_with fail
        go_roundg (n - (j + 1))
        case measure => have := HN.out.2; omega
        case rel => exact ⟨j + 1, by go_num, by omega, by rw [HN.out.1, if_pos HE.out], rfl⟩
      · have e1 : (a == (i : Int)) = false := by simpa using he
        have HE := Lib.hid he
        clear he
        go_wp2_with fail
        go_roundg (n - (j + 1))
        case measure => have := HN.out.2; omega
        case rel => exact ⟨j + 1, by go_num, by omega, by rw [HN.out.1, if_neg HE.out], rfl⟩
    · obtain rfl : j = n := by omega
      have hfull : Ws.take j = Ws := List.take_of_length_le (by rw [HW.out.2]; exact Nat.le_refl _)
      have d1 : ¬ ((j : Int) < (j : Int)) := by omega
      rw [hfull]
      clear hlt hfull
      go_wp2_with fail
      go_ret
      exact ⟨rfl, rfl⟩

set_option maxRecDepth 100000 in
set_option maxHeartbeats 2000000 in
/-- Read, of the pages 0 and 1. -/
theorem rread_any (h : RD base W q lv wv Ls Ws) (i : Nat) (hi : i ≤ 1) :
    Calls Tryd.prog 37 #[.pointer (some ⟨q, 0, none⟩), .int .i64 i] W fun e w' => e = .returned (.tuple #[.string (if h : i < Ls.length then nowW Ls[i] i Ws else ⟨#[]⟩), .int .i64 (if i < Ls.length then 0 else 3)]) ∧ W = w' := by
  have c1 := h.has.cell 1
  have c2 := h.has.cell 2
  simp [rdV] at c1 c2
  obtain ⟨A, c, hlv⟩ := rform3 h.pages
  have g0 : decide ((i : Int) < 0) = false := by simp
  by_cases hlt : i < Ls.length
  · have hnow := rnow_any h i hlt
    rw [dif_pos hlt, if_pos hlt]
    generalize nowW Ls[i] i Ws = s1 at *
    obtain ⟨m, hm⟩ : ∃ m, Ls.length = m := ⟨_, rfl⟩
    rw [hlv, hm] at c2
    have g1 : ¬ (m ≤ i) := by omega
    clear h hlv hlt
    go_enter Tryd.func37, Tryd.ntmps37
    go_wp2_with fail
    refine hnow.mono ?_
    rintro e w' ⟨rfl, rfl⟩
    go_wp2_with fail
    go_ret2
    exact ⟨rfl, rfl⟩
  · rw [dif_neg hlt, if_neg hlt]
    obtain ⟨m, hm⟩ : ∃ m, Ls.length = m := ⟨_, rfl⟩
    rw [hlv, hm] at c2
    have g1 : m ≤ i := by omega
    clear h hlv hlt
    go_enter Tryd.func37, Tryd.ntmps37
    go_wp2_with fail
    go_ret2
    exact ⟨rfl, rfl⟩
end
end Go.Proofs.YthcpjpebahiikaaDoor
