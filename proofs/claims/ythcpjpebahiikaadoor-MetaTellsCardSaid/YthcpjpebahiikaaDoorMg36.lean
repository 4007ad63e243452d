/-
  The document's own device, of two pages at most: new, grown, written to; which meta is chosen of it.
-/
import Derived.Test.YthcpjpebahiikaaDoorMg4
import Derived.Test.YthcpjpebahiikaaDoorMg35
import Derived.Test.YthcpjpebahiikaaDoorMg28
import Derived.Deep.RegionHeld3
import Derived.Lib.AppendZeros
import Derived.Deep.AppendLies
namespace Go.Proofs.YthcpjpebahiikaaDoor
open Go.RowKit Go.Lib

section
variable {base q : Nat} {W : World} {lv wv : Value} {Ls : List ByteArray} {Ws : List (Int × ByteArray)}

set_option maxRecDepth 1000000 in
set_option maxHeartbeats 1000000 in
theorem rnew5 (w : World) : Calls Tryd.prog 12 #[.int .i64 2] w fun e w' => e = .returned (.tuple #[.pointer (some ⟨w.heap.size, 0, none⟩), .int .i64 0]) ∧ w.alloc (.cells (rdV (.slice none 0 0) (.slice none 0 0)) 65) = w' := by
  go_enter Tryd.func12, Tryd.ntmps12
  go_wp2
  go_ret2
  exact ⟨rfl, rfl⟩
theorem rd_new (base : Nat) (w : World) : RD base (w.alloc (.cells (rdV (.slice none 0 0) (.slice none 0 0)) 65)) w.heap.size (.slice none 0 0) (.slice none 0 0) [] [] :=
  ⟨Has.made _ _ _, World.ownsRow_nil _ _ _ _, World.ownsRow_nil _ _ _ _, by simp⟩

set_option maxRecDepth 1000000 in
set_option maxHeartbeats 1000000 in
theorem rop5 (h : RD base W q lv wv Ls Ws) : Calls Tryd.prog 31 #[.pointer (some ⟨q, 0, none⟩)] W fun e w' => e = .returned (.tuple #[.bool true, .bool true]) ∧ W = w' := by
  have c1 := h.has.cell 1
  have c4 := h.has.cell 4
  simp [rdV] at c1 c4
  clear h
  go_enter Tryd.func31, Tryd.ntmps31
  go_wp2
  go_ret2
  exact ⟨rfl, rfl⟩

set_option maxRecDepth 1000000 in
set_option maxHeartbeats 2000000 in
theorem rgrow5 (h : RD base W q (.slice none 0 0) (.slice none 0 0) [] []) (hbase : base ≤ W.heap.size) (k : Nat) (hk : k ≤ 2) :
    Calls Tryd.prog 14 #[.pointer (some ⟨q, 0, none⟩), .int .i64 k] W fun e w' => e = .returned (.int .i64 0) ∧ ∃ lv', RD base w' q lv' (.slice none 0 0) (List.replicate k blank) [] ∧ (∀ g, lv'.ownBlock = some g → W.heap.size ≤ g) ∧ Kept [q] W w' := by
  have hop := rop5 h
  have c0 := h.has.cell 0
  have c2 := h.has.cell 2
  simp [rdV] at c0 c2
  have f2 := h.has.free 2
  have hi := h.has.inside
  have e0 : decide ((k : Int) < 0) = false := by simp
  have e1 : decide ((2 : Int) < (k : Int)) = false := by simp; omega
  have e2 : ¬ (2 < k) := by omega
  have H := Lib.hid (And.intro h.has hbase)
  have HK := Lib.hid hk
  have hkb : k ≤ 2 := hk
  clear h hk hbase
  go_enter Tryd.func14, Tryd.ntmps14
  go_wp2_with fail
  refine hop.mono ?_
  rintro e w' ⟨rfl, rfl⟩
  clear hop
  go_wp2_with fail
  go_loopg [7] k (fun g lv wr => ∃ (j : Nat), j + g = k ∧ TxRow wr W.heap.size lv (List.replicate j blank) ∧ Below W.heap.size W wr)
  case atStart => exact ⟨0, by omega, World.ownsRow_nil _ _ _ _, Below.refl _ _⟩
  case round =>
    clear c0 c2 f2 hi
    obtain ⟨j, hjg, hown, hb⟩ := hrel
    obtain ⟨A, c, hform⟩ := rform3 hown
    rw [List.length_replicate] at hform
    subst hform
    by_cases hlt : j < k
    · have hj1 : (j : Int) < k := by omega
      have hjb : j ≤ 2 := by omega
      have HR := Lib.hid (And.intro hown (And.intro hb hjg))
      clear hown hb hjg
      go_wp2_with (first
        | (at_make; refine make_bytes _ rfl _ _ rfl 256 rfl rfl (by omega) ?_; intro w5 hrow hb5
           have hstr := row_string hrow
           have HB5 := Lib.hid hb5
           have hra : TxRow w5 W.heap.size (.slice A j c) (List.replicate j blank) := row_kept (F := []) HR.out.1 (Kept.of_below hb5) (by simp)
           have hbs5 : W.heap.size ≤ w5.heap.size := Nat.le_trans HR.out.2.1.size hb5.size
           clear hrow hb5)
        | (at_builtin; refine append_txt rfl _ _ rfl W.heap.size w5 (.slice A j c) _ rfl hra ⟨(List.replicate 256 (0 : UInt8)).toArray⟩ rfl (by simp; omega) hbs5 ?_; intro v' w' hown' hb'))
      go_roundg (k - (j + 1))
      case measure => have := HR.out.2.2; omega
      case rel =>
        refine ⟨j + 1, by omega, ?_, (HR.out.2.1.trans (HB5.out.mono HR.out.2.1.size)).trans hb'⟩
        rw [List.replicate_succ']
        exact hown'
    · obtain rfl : j = k := by omega
      have h1 := H.out.1.below hb H.out.1.inside
      have c2 := h1.cell 2
      simp [rdV] at c2
      have f2 := h1.free 2
      have hi := h1.inside
      have HB := Lib.hid (And.intro hb hown)
      clear hown hb h1 hlt
      go_wp2_with fail
      go_ret
      obtain ⟨hb, hown⟩ := HB.out
      have hKW : Kept [q] W (wr.setCell ⟨q, 2, none⟩ (.slice A j c)) := ((Kept.of_below hb).mono (F := []) (fun _ h => absurd h (by simp))).setCell (.inl (by simp)) _
      have hne : ∀ g, (Value.slice A j c).ownBlock = some g → W.heap.size ≤ g := fun g hg => (World.ownsRow.lt hown g hg).1
      have hr2 := row_kept hown ((Kept.refl [q] wr).setCell (p := ⟨q, 2, none⟩) (.inl (by simp)) (.slice A j c)) (fun g hg hin => by
        have := hne g hg
        have h5 := H.out.1.inside
        simp at hin
        omega)
      refine ⟨rfl, .slice A j c, ⟨(H.out.1.below hb H.out.1.inside).put 2 _, ?_, World.ownsRow_nil _ _ _ _, by simp; exact HK.out⟩, hne, hKW⟩
      refine ⟨by simp, ?_⟩
      rcases hr2.2 with h0 | ⟨g, cap, cur, hv, hbg, rest⟩
      · exact .inl h0
      · exact .inr ⟨g, cap, cur, hv, Nat.le_trans H.out.2 hbg, rest⟩

theorem Tryd.infoWrO : (Tryd.prog.info? 74).map (fun i => (i.zero, i.size, i.bytes)) = some (some (.agg #[.int .i64 0, .string ⟨#[]⟩]), 2, 24) := by kernel_rfl
theorem run_wr {wr : World} {B : Nat} {d : Value} {xs : List (Int × ByteArray)} {n : Nat} (hown : wr.ownsRow B 74 2 d n (wcells xs)) (ad : Addr) (m c : Nat) (l : List (Int × ByteArray)) (hl : l.length = m) (hc : ∀ j u, (wcells l)[j]? = some u → wr.cell? (ad.add j) = some u) (hm : 0 < m) (hlen : n + m ≤ 1000) (hbase : B ≤ wr.heap.size) (ty : TypeId) :
    ∃ A c' w', (Builtin.append_ #[63, 63] ty #[d, .slice (some ad) m c]).run Tryd.prog wr = .ok (.slice A (n + m) c') w' ∧ w'.ownsRow B 74 2 (.slice A (n + m) c') (n + m) (wcells (xs ++ l)) ∧ Below B wr w' := by
  obtain ⟨i0, hi, hz0, hz1, hz2⟩ := info_parts Tryd.infoWrO
  have hone : ∀ u ∈ wcells l, u.oneCell' = true := fun u hu => by
    unfold wcells at hu
    simp only [List.mem_flatMap] at hu
    obtain ⟨x, _, hx⟩ := hu
    simp at hx
    rcases hx with rfl | rfl <;> rfl
  obtain ⟨v', w', hrun, h1, h2, _⟩ := run_append_own (P := Tryd.prog) wr B 63 ty 74 i0 (.agg #[.int .i64 0, .string ⟨#[]⟩]) 2 24 Tryd.underlying63 hi hz0 hz1 hz2 rfl (by decide) d n (wcells xs) hown ad m c (wcells l) (by rw [wcells_length, hl]) hc hone (by unfold maxLen; omega) (by omega) hbase
  obtain ⟨A, c', rfl⟩ := rform3 h1
  refine ⟨A, c', w', hrun, ?_, (Below.refl B wr).grown h2 hbase (fun k hk => (World.ownsRow.lt hown k hk).1)⟩
  have : wcells (xs ++ l) = wcells xs ++ wcells l := by simp [wcells]
  rw [this]
  exact h1
theorem wpl_wr {ops : Array Oper} {rest : List Oper} {o : Oper} {a : Act} {Q : Exit → Act → World → Prop} (hgd : o.guard = none) (s x : Operand) (ho : o.op = .call { callee := .builtin .append, args := #[s, x], argTypes := #[63, 63] }) (wr : World) (B : Nat) (d : Value) (xs : List (Int × ByteArray)) (n : Nat) (hs : a.eval s = d)
    (hown : wr.ownsRow B 74 2 d n (wcells xs)) (ad : Addr) (m c : Nat) (hx : a.eval x = .slice (some ad) m c) (l : List (Int × ByteArray)) (hl : l.length = m) (hc : ∀ j u, (wcells l)[j]? = some u → wr.cell? (ad.add j) = some u) (hm : 0 < m) (hlen : n + m ≤ 1000) (hbase : B ≤ wr.heap.size)
    (h : ∀ A c w', w'.ownsRow B 74 2 (.slice A (n + m) c) (n + m) (wcells (xs ++ l)) → Below B wr w' → wpList Tryd.prog ops Q rest (a.put o.dst (.slice A (n + m) c)) w') : wpList Tryd.prog ops Q (o :: rest) a wr := by
  obtain ⟨A, c', w', hrun, hown', hb⟩ := run_wr hown ad m c l hl hc hm hlen hbase o.type
  exact wpList_append_run _ hgd s x 63 63 ho _ _ hs hx _ _ hrun (h A c' w' hown' hb)
theorem wp_wr {K : Act → World → Prop} {o : Oper} {a : Act} {Q : Exit → Act → World → Prop} (s x : Operand) (ho : o.op = .call { callee := .builtin .append, args := #[s, x], argTypes := #[63, 63] }) (wr : World) (B : Nat) (d : Value) (xs : List (Int × ByteArray)) (n : Nat) (hs : a.eval s = d)
    (hown : wr.ownsRow B 74 2 d n (wcells xs)) (ad : Addr) (m c : Nat) (hx : a.eval x = .slice (some ad) m c) (l : List (Int × ByteArray)) (hl : l.length = m) (hc : ∀ j u, (wcells l)[j]? = some u → wr.cell? (ad.add j) = some u) (hm : 0 < m) (hlen : n + m ≤ 1000) (hbase : B ≤ wr.heap.size)
    (h : ∀ A c w', w'.ownsRow B 74 2 (.slice A (n + m) c) (n + m) (wcells (xs ++ l)) → Below B wr w' → K (a.put o.dst (.slice A (n + m) c)) w') : o.wp Tryd.prog a wr K Q := by
  obtain ⟨A, c', w', hrun, hown', hb⟩ := run_wr hown ad m c l hl hc hm hlen hbase o.type
  exact Lib.wp_append_run wr s x 63 63 ho d _ hs hx _ _ hrun (h A c' w' hown' hb)
theorem cells_box2 (w : World) (i : Int) (d : ByteArray) : ∀ j u, (wcells [(i, d)])[j]? = some u → (w.alloc (.cells #[.int .i64 i, .string d] 74)).cell? ((⟨w.heap.size, 0, none⟩ : Addr).add j) = some u :=
  fun j u hu => World.news_of_block (Has.made w 74 ([.int .i64 i, .string d] : List Value).toArray) j u hu
/-- append(nil, x) of one's own writes. -/
theorem append_wr0 {ops : Array Oper} {rest : List Oper} {o : Oper} {a : Act} {Q : Exit → Act → World → Prop} (hgd : o.guard = none) (s x : Operand)
    (ho : o.op = .call { callee := .builtin .append, args := #[s, x], argTypes := #[63, 63] }) (wr : World) (hs : a.eval s = .slice none 0 0) (i : Int) (d : ByteArray) (hx : a.eval x = .slice (some ⟨wr.heap.size, 0, none⟩) 1 1)
    (h : ∀ A c w', w'.ownsRow wr.heap.size 74 2 (.slice A 1 c) 1 (wcells [(i, d)]) → Below wr.heap.size wr w' → wpList Tryd.prog ops Q rest (a.put o.dst (.slice A 1 c)) w') : wpList Tryd.prog ops Q (o :: rest) a (wr.alloc (.cells #[.int .i64 i, .string d] 74)) := by
  obtain ⟨A, c', w', hrun, hown', hb⟩ := run_wr (wr := wr.alloc (.cells #[.int .i64 i, .string d] 74)) (B := wr.heap.size) (d := .slice none 0 0) (xs := []) (n := 0) (World.ownsRow_nil _ _ _ _) ⟨wr.heap.size, 0, none⟩ 1 1 [(i, d)] rfl (cells_box2 wr i d) (by omega) (by omega) (by simp) o.type
  exact wpList_append_run _ hgd s x 63 63 ho _ _ hs hx _ _ hrun (h A c' w' hown' (((Below.refl _ _).alloc (Nat.le_refl _) _).trans hb))

/-- What a write leaves. -/
def wrTo (Ls : List ByteArray) (Ws : List (Int × ByteArray)) (i : Nat) (d : ByteArray) : List (Int × ByteArray) := if i < Ls.length then Ws ++ [((i : Int), d)] else Ws
theorem rd_set {W w' : World} {A : Option Addr} {n c : Nat} {Xs : List (Int × ByteArray)} (h : RD base W q lv wv Ls Ws) (hbase : base ≤ W.heap.size) (hb : Below W.heap.size W w') (hr : w'.ownsRow W.heap.size 74 2 (.slice A n c) n (wcells Xs)) (hn : Xs.length = n) (hn2 : n ≤ 2) (hq : ∀ g, lv.ownBlock = some g → g ≠ q) :
    RD base (w'.setCell ⟨q, 3, none⟩ (.slice A n c)) q lv (.slice A n c) Ls Xs ∧ (∀ g, (Value.slice A n c).ownBlock = some g → W.heap.size ≤ g) ∧ Kept [q] W (w'.setCell ⟨q, 3, none⟩ (.slice A n c)) := by
  have hne : ∀ g, (Value.slice A n c).ownBlock = some g → W.heap.size ≤ g := fun g hg => (World.ownsRow.lt hr g hg).1
  have hi := h.has.inside
  have hK : Kept [q] w' (w'.setCell ⟨q, 3, none⟩ (.slice A n c)) := (Kept.refl [q] w').setCell (p := ⟨q, 3, none⟩) (.inl (by simp)) _
  refine ⟨⟨(h.below hb).has.put 3 _, row_kept (h.below hb).pages hK (fun g hg hin => by simp at hin; exact hq g hg hin), ?_, h.few.1, by omega⟩, hne, ((Kept.of_below hb).mono (F := []) (fun _ h => absurd h (by simp))).trans (by exact hK)⟩
  have hr2 := row_kept hr hK (fun g hg hin => by have := hne g hg; simp at hin; omega)
  subst hn
  refine ⟨hr2.1, ?_⟩
  rcases hr2.2 with h0 | ⟨g, cap, cur, hv, hbg, rest⟩
  · exact .inl h0
  · exact .inr ⟨g, cap, cur, hv, Nat.le_trans hbase hbg, rest⟩

set_option maxRecDepth 1000000 in
set_option maxHeartbeats 2000000 in
theorem rwrite_no (h : RD base W q lv wv Ls Ws) (i : Nat) (d : ByteArray) (hi : Ls.length ≤ i) (_hi2 : i ≤ 1) :
    Calls Tryd.prog 16 #[.pointer (some ⟨q, 0, none⟩), .int .i64 i, .string d] W fun e w' => e = .returned (.int .i64 3) ∧ W = w' := by
  have hop := rop5 h
  have c2 := h.has.cell 2
  simp [rdV] at c2
  obtain ⟨A, c, hlv⟩ := rform3 h.pages
  obtain ⟨m, hm⟩ : ∃ m, Ls.length = m := ⟨_, rfl⟩
  rw [hlv, hm] at c2
  rw [hm] at hi
  have g0 : decide ((i : Int) < 0) = false := by simp
  have g1 : m ≤ i := hi
  clear h hlv hm hi
  go_enter Tryd.func16, Tryd.ntmps16
  go_wp2_with fail
  refine hop.mono ?_
  rintro e w' ⟨rfl, rfl⟩
  clear hop
  go_wp2_with fail
  go_ret
  exact ⟨rfl, rfl⟩

set_option maxRecDepth 1000000 in
set_option maxHeartbeats 2000000 in
theorem rwrite_first (h : RD base W q lv (.slice none 0 0) Ls []) (hbase : base ≤ W.heap.size) (hq : ∀ g, lv.ownBlock = some g → g ≠ q) (i : Nat) (d : ByteArray) (hi : i < Ls.length) (hd : d.size = 256) :
    Calls Tryd.prog 16 #[.pointer (some ⟨q, 0, none⟩), .int .i64 i, .string d] W fun e w' => e = .returned (.int .i64 0) ∧ ∃ wv', RD base w' q lv wv' Ls [((i : Int), d)] ∧ (∀ g, wv'.ownBlock = some g → W.heap.size ≤ g) ∧ Kept [q] W w' := by
  have hop := rop5 h
  have c2 := h.has.cell 2
  have c3 := h.has.cell 3
  simp [rdV] at c2 c3
  have f3 := h.has.free 3
  have hin := h.has.inside
  obtain ⟨A, c, hlv⟩ := rform3 h.pages
  obtain ⟨m, hm⟩ : ∃ m, Ls.length = m := ⟨_, rfl⟩
  have hib : i ≤ 2 := by have := h.few.1; omega
  have HH := Lib.hid (And.intro h (And.intro hbase hq))
  rw [hlv, hm] at c2
  rw [hm] at hi
  have g0 : decide ((i : Int) < 0) = false := by simp
  have g1 : ¬ (m ≤ i) := by omega
  have g2 : ((d.size : Int) != 256) = false := by rw [hd]; rfl
  clear h hlv hm hi hbase hq
  go_enter Tryd.func16, Tryd.ntmps16
  go_wp2_with fail
  refine hop.mono ?_
  rintro e w' ⟨rfl, rfl⟩
  clear hop
  go_wp2_with (at_builtin; refine append_wr0 rfl _ _ rfl W rfl i d rfl ?_; intro A3 c3' w3 hr3 hb3; have d3 := (hb3.cell (p := ⟨q, 3, none⟩) hin).trans c3; have e3 : w3.frozen? ⟨q, 3, none⟩ = false := (World.frozen?_of_block (hb3.block q hin)).trans f3; have H3 := Lib.hid (And.intro hr3 hb3); clear hr3 hb3)
  go_ret
  obtain ⟨k1, k2, k3⟩ := rd_set HH.out.1 HH.out.2.1 H3.out.2 H3.out.1 rfl (by omega) HH.out.2.2
  exact ⟨rfl, _, k1, k2, k3⟩

set_option maxRecDepth 1000000 in
set_option maxHeartbeats 4000000 in
theorem rwrite_second {x : Int × ByteArray} (h : RD base W q lv wv Ls [x]) (hbase : base ≤ W.heap.size) (hq : ∀ g, lv.ownBlock = some g → g ≠ q) (i : Nat) (d : ByteArray) (hi : i < Ls.length) (hd : d.size = 256) :
    Calls Tryd.prog 16 #[.pointer (some ⟨q, 0, none⟩), .int .i64 i, .string d] W fun e w' => e = .returned (.int .i64 0) ∧ ∃ wv', RD base w' q lv wv' Ls [x, ((i : Int), d)] ∧ (∀ g, wv'.ownBlock = some g → W.heap.size ≤ g) ∧ Kept [q] W w' := by
  have hop := rop5 h
  have c2 := h.has.cell 2
  have c3 := h.has.cell 3
  simp [rdV] at c2 c3
  have f3 := h.has.free 3
  have hin := h.has.inside
  obtain ⟨A, c, hlv⟩ := rform3 h.pages
  obtain ⟨gw, capw, curw, hwv, -, hgcw, -, -, -, hgtw⟩ : ∃ gw capw curw, wv = .slice (some ⟨gw, 0, none⟩) 1 capw ∧ base ≤ gw ∧ W.heap[gw]? = some (.cells curw 74 (0, 0)) ∧ 1 ≤ capw ∧ capw ≤ maxLen ∧ curw.size = capw * 2 ∧ curw.toList.take (1 * 2) = wcells [x] := by
    rcases h.writes.2 with ⟨_, h0⟩ | h0
    · simp at h0
    · exact h0
  have hgl : gw < W.heap.size := (Array.getElem?_eq_some_iff.1 hgcw).1
  have hcur : ∀ (j : Nat) (u : Value), (wcells [x])[j]? = some u → curw.toList[j]? = some u := fun j u hu => by
    have hkl : j < 1 * 2 := by
      have := (List.getElem?_eq_some_iff.1 hu).1
      rw [wcells_length] at this
      simpa using this
    rw [← hgtw, List.getElem?_take, if_pos hkl] at hu
    exact hu
  obtain ⟨m, hm⟩ : ∃ m, Ls.length = m := ⟨_, rfl⟩
  have hib : i ≤ 2 := by have := h.few.1; omega
  have HH := Lib.hid (And.intro h (And.intro hbase hq))
  have HC := Lib.hid (fun W' (hb : Below W.heap.size W W') => And.intro ((hb.cell (p := ⟨q, 3, none⟩) hin).trans c3) ((World.frozen?_of_block (a := ⟨q, 3, none⟩) (hb.block q hin)).trans f3))
  have HN := Lib.hid (fun W' (hb : Below W.heap.size W W') j u (hu : (wcells [x])[j]? = some u) => World.news_of_block (w := W') ((hb.block gw hgl).trans hgcw) j u (hcur j u hu))
  rw [hlv, hm] at c2
  rw [hm] at hi
  have g0 : decide ((i : Int) < 0) = false := by simp
  have g1 : ¬ (m ≤ i) := by omega
  have g2 : ((d.size : Int) != 256) = false := by rw [hd]; rfl
  subst hwv
  clear h hlv hm hi hbase hq hgcw hgtw hcur
  go_enter Tryd.func16, Tryd.ntmps16
  go_wp2_with fail
  refine hop.mono ?_
  rintro e w' ⟨rfl, rfl⟩
  clear hop
  go_wp2_with first
    | (at_builtin; refine wpl_wr rfl _ _ rfl W W.heap.size (.slice none 0 0) [] 0 rfl (World.ownsRow_nil _ _ _ _) ⟨gw, 0, none⟩ 1 capw rfl [x] rfl (HN.out W (Below.refl _ _)) (by omega) (by omega) (Nat.le_refl _) ?_; intro A3 c3' w2 hown2 hb2; have H2 := Lib.hid (And.intro hown2 hb2); clear hown2 hb2)
    | (at_builtin; refine wpl_wr rfl _ _ rfl (w2.alloc (.cells #[.int .i64 i, .string d] 74)) W.heap.size _ [x] 1 rfl (World.ownsRow.alloc H2.out.1 _) ⟨w2.heap.size, 0, none⟩ 1 1 rfl [((i : Int), d)] rfl (cells_box2 w2 i d) (by omega) (by omega) (by have := H2.out.2.size; simp; omega) ?_; intro A4 c4' w3 hown3 hb3; have hW3 : Below W.heap.size W w3 := (H2.out.2.alloc H2.out.2.size _).trans hb3; have d3 := (HC.out w3 hW3).1; have e3 := (HC.out w3 hW3).2; have H3 := Lib.hid (And.intro hown3 hW3); clear hown3 hb3 hW3)
  go_ret
  obtain ⟨k1, k2, k3⟩ := rd_set HH.out.1 HH.out.2.1 H3.out.2 H3.out.1 rfl (by omega) HH.out.2.2
  exact ⟨rfl, _, k1, k2, k3⟩

/-- The meta that is chosen, of the document's own device. -/
def rdE (Ls : List ByteArray) (i : Nat) : Int := if i < Ls.length then 0 else 3
def rdB (Ls : List ByteArray) (Ws : List (Int × ByteArray)) (i : Nat) : ByteArray := if h : i < Ls.length then nowW Ls[i] i Ws else ⟨#[]⟩
set_option maxRecDepth 1000000 in
set_option maxHeartbeats 4000000 in
theorem rchooseOf5 (h : RD base W q lv wv Ls Ws) (h1 : 1 ≤ Ls.length) :
    Calls Tryd.prog 19 #[.pointer (some ⟨q, 0, none⟩)] W fun e w' => e = .returned (.tuple #[choV (rdE Ls 0) (rdE Ls 1) (rdB Ls Ws 0).data.toList (rdB Ls Ws 1).data.toList, .int .i64 (choE (rdE Ls 0) (rdE Ls 1) (rdB Ls Ws 0).data.toList (rdB Ls Ws 1).data.toList)]) ∧ Below W.heap.size W w' := by
  have hz : Below W.heap.size W (W.alloc metaZ) := (Below.refl _ _).alloc (Nat.le_refl _) _
  have hr0 := rread_any (h.below hz) 0 (by omega)
  have hr1 := rread_any (h.below hz) 1 (by omega)
  have e0 : rdE Ls 0 = 0 := by unfold rdE; rw [if_pos (by omega)]
  have hb0 : (if h : 0 < Ls.length then nowW Ls[0] ((0 : Nat) : Int) Ws else ⟨#[]⟩) = rdB Ls Ws 0 := rfl
  have hb1 : (if h : 1 < Ls.length then nowW Ls[1] ((1 : Nat) : Int) Ws else ⟨#[]⟩) = rdB Ls Ws 1 := rfl
  have he0 : (if 0 < Ls.length then (0 : Int) else 3) = 0 := by rw [if_pos (by omega)]
  have he1 : (if 1 < Ls.length then (0 : Int) else 3) = rdE Ls 1 := rfl
  rw [hb0, he0] at hr0
  rw [hb1, he1] at hr1
  rw [e0]
  have hE1 : rdE Ls 1 = 0 ∨ rdE Ls 1 = 3 := by unfold rdE; split <;> simp
  have hch := fun w1 => refChoose_any (rdB Ls Ws 0) (rdB Ls Ws 1) w1
  generalize rdB Ls Ws 0 = b0 at *
  generalize rdB Ls Ws 1 = b1 at *
  generalize rdE Ls 1 = E1 at *
  have HZ := Lib.hid hz
  have HCH := Lib.hid hch
  clear h h1 hz e0 hb0 hb1 he0 he1 hch
  go_enter Tryd.func19, Tryd.ntmps19
  go_wp2_with fail
  refine hr0.mono ?_
  rintro e w' ⟨rfl, rfl⟩
  clear hr0
  go_wp2_with fail
  refine hr1.mono ?_
  rintro e w' ⟨rfl, rfl⟩
  clear hr1
  rcases hE1 with rfl | rfl
  · obtain ⟨c0, h0⟩ : ∃ c, choN 0 0 b0.data.toList b1.data.toList 0 = c := ⟨_, rfl⟩
    obtain ⟨c1, h1⟩ : ∃ c, choN 0 0 b0.data.toList b1.data.toList 1 = c := ⟨_, rfl⟩
    obtain ⟨c2, h2⟩ : ∃ c, choN 0 0 b0.data.toList b1.data.toList 2 = c := ⟨_, rfl⟩
    obtain ⟨c3, h3⟩ : ∃ c, choN 0 0 b0.data.toList b1.data.toList 3 = c := ⟨_, rfl⟩
    have hV : choV 0 0 b0.data.toList b1.data.toList = metaV c0 c1 c2 c3 := by unfold choV; rw [h0, h1, h2, h3]
    obtain ⟨E, hE⟩ : ∃ E, choE 0 0 b0.data.toList b1.data.toList = E := ⟨_, rfl⟩
    have hcc := HCH.out (W.alloc metaZ)
    rw [hV, hE] at hcc
    unfold metaV at hcc
    have HV := Lib.hid (And.intro hV hE)
    have hH : Has (W.alloc metaZ) W.heap.size 23 #[.int .i64 0, .int .i64 0, .int .i64 0, .int .i64 0] := Has.made W _ _
    clear h0 h1 h2 h3 hV hE
    go_wp2_with fail
    refine hcc.mono ?_
    rintro e w1 ⟨rfl, hb⟩
    have hA := hH.below hb hH.inside
    obtain ⟨⟨p0, p1, p2, p3⟩, g0, g1, g2, g3⟩ := hA.four
    have HM := Lib.hid (And.intro (hA.metaSet c0 c1 c2 c3).four.1 (metaSet_below (HZ.out.trans (hb.mono HZ.out.size)) (Nat.le_refl _) c0 c1 c2 c3))
    clear hA hb hcc hH
    go_wp2_with fail
    change bodyPost _ _ _ _ _ (metaSet w1 W.heap.size c0 c1 c2 c3)
    obtain ⟨⟨k0, k1, k2, k3⟩, hb⟩ := HM.out
    rw [HV.out.1, HV.out.2]
    clear HM p0 p1 p2 p3 g0 g1 g2 g3
    generalize metaSet _ _ _ _ _ _ = wz at *
    exact bodyPost_ret (v := .tuple #[.agg #[.int .i64 c0, .int .i64 c1, .int .i64 c2, .int .i64 c3], .int .i64 E]) (by simp [results, Tryd.results19, go_sem, k0, k1, k2, k3]) rfl ⟨rfl, hb⟩
  · go_wp2_with fail
    have hV : choV 0 3 b0.data.toList b1.data.toList = metaV 0 0 0 0 := by unfold choV choN; simp
    have hE : choE 0 3 b0.data.toList b1.data.toList = 3 := by unfold choE; simp
    rw [hV, hE]
    exact bodyPost_ret (v := .tuple #[.agg #[.int .i64 0, .int .i64 0, .int .i64 0, .int .i64 0], .int .i64 3]) (by simp [results, Tryd.results19, go_sem]) rfl ⟨rfl, (Below.refl _ _).alloc (Nat.le_refl _) _⟩
end
end Go.Proofs.YthcpjpebahiikaaDoor
