/-
  The document's own device, of two pages at most: new, grown, written to; which meta is chosen of it. The program's device and the document's, side by side: what each call leaves of both.
-/
import Derived.Test.YthcpjpebahiikaaDoorMg4
import Derived.Test.YthcpjpebahiikaaDoorMg17
import Derived.Test.YthcpjpebahiikaaDoorMg14
import Derived.Deep.RegionHeld3
import Derived.Lib.AppendZeros
import Derived.Deep.AppendLies
namespace Go.Proofs.YthcpjpebahiikaaDoor
open Go.RowKit Go.Lib

section
variable {base q : Nat} {W : World} {lv wv : Value} {Ls : List ByteArray} {Ws : List (Int × ByteArray)}

set_option maxRecDepth 1000000 in
set_option maxHeartbeats 1000000 in
theorem rnew5 (w : World) : Calls Tryd.prog 12 #[.int .i64 2] w fun e w' => e = .returned (.tuple #[.pointer (some ⟨w.heap.size, 0, none⟩), .int .i64 0]) ∧ w.alloc (.cells (rdV (.slice none 0 0) (.slice none 0 0)) 65) = w' := by
  go_enter Tryd.func12, Tryd.ntmps12
  go_wp2
  go_ret2
  exact ⟨rfl, rfl⟩
theorem rd_new (base : Nat) (w : World) : RD base (w.alloc (.cells (rdV (.slice none 0 0) (.slice none 0 0)) 65)) w.heap.size (.slice none 0 0) (.slice none 0 0) [] [] :=
  ⟨Has.made _ _ _, World.ownsRow_nil _ _ _ _, World.ownsRow_nil _ _ _ _, by simp⟩

set_option maxRecDepth 1000000 in
set_option maxHeartbeats 1000000 in
theorem rop5 (h : RD base W q lv wv Ls Ws) : Calls Tryd.prog 31 #[.pointer (some ⟨q, 0, none⟩)] W fun e w' => e = .returned (.tuple #[.bool true, .bool true]) ∧ W = w' := by
  have c1 := h.has.cell 1
  have c4 := h.has.cell 4
  simp [rdV] at c1 c4
  clear h
  go_enter Tryd.func31, Tryd.ntmps31
  go_wp2
  go_ret2
  exact ⟨rfl, rfl⟩

set_option maxRecDepth 1000000 in
set_option maxHeartbeats 2000000 in
theorem rgrow5 (h : RD base W q (.slice none 0 0) (.slice none 0 0) [] []) (hbase : base ≤ W.heap.size) (k : Nat) (hk : k ≤ 2) :
    Calls Tryd.prog 14 #[.pointer (some ⟨q, 0, none⟩), .int .i64 k] W fun e w' => e = .returned (.int .i64 0) ∧ ∃ lv', RD base w' q lv' (.slice none 0 0) (List.replicate k blank) [] ∧ (∀ g, lv'.ownBlock = some g → W.heap.size ≤ g) ∧ Kept [q] W w' := by
  have hop := rop5 h
  have c0 := h.has.cell 0
  have c2 := h.has.cell 2
  simp [rdV] at c0 c2
  have f2 := h.has.free 2
  have hi := h.has.inside
  have e0 : decide ((k : Int) < 0) = false := by simp
  have e1 : decide ((2 : Int) < (k : Int)) = false := by simp; omega
  have e2 : ¬ (2 < k) := by omega
  have H := Lib.hid (And.intro h.has hbase)
  have HK := Lib.hid hk
  have hkb : k ≤ 2 := hk
  clear h hk hbase
  go_enter Tryd.func14, Tryd.ntmps14
  go_wp2_with fail
  refine hop.mono ?_
  rintro e w' ⟨rfl, rfl⟩
  clear hop
  go_wp2_with fail
  go_loopg [7] k (fun g lv wr => ∃ (j : Nat), j + g = k ∧ TxRow wr W.heap.size lv (List.replicate j blank) ∧ Below W.heap.size W wr)
  case atStart => exact ⟨0, by omega, World.ownsRow_nil _ _ _ _, Below.refl _ _⟩
  case round =>
    clear c0 c2 f2 hi
    obtain ⟨j, hjg, hown, hb⟩ := hrel
    obtain ⟨A, c, hform⟩ := rform3 hown
    rw [List.length_replicate] at hform
    subst hform
    by_cases hlt : j < k
    · have hj1 : (j : Int) < k := by omega
      have hjb : j ≤ 2 := by omega
      have HR := Lib.hid (And.intro hown (And.intro hb hjg))
      clear hown hb hjg
      go_wp2_with (first
        | (at_make; refine make_bytes _ rfl _ _ rfl 256 rfl rfl (by omega) ?_; intro w5 hrow hb5
           have hstr := row_string hrow
           have HB5 := Lib.hid hb5
           have hra : TxRow w5 W.heap.size (.slice A j c) (List.replicate j blank) := row_kept (F := []) HR.out.1 (Kept.of_below hb5) (by simp)
           have hbs5 : W.heap.size ≤ w5.heap.size := Nat.le_trans HR.out.2.1.size hb5.size
           clear hrow hb5)
        | (at_builtin; refine append_txt rfl _ _ rfl W.heap.size w5 (.slice A j c) _ rfl hra ⟨(List.replicate 256 (0 : UInt8)).toArray⟩ rfl (by simp; omega) hbs5 ?_; intro v' w' hown' hb'))
      go_roundg (k - (j + 1))
      case measure => have := HR.out.2.2; omega
      case rel =>
        refine ⟨j + 1, by omega, ?_, (HR.out.2.1.trans (HB5.out.mono HR.out.2.1.size)).trans hb'⟩
        rw [List.replicate_succ']
        exact hown'
    · obtain rfl : j = k := by omega
      have h1 := H.out.1.below hb H.out.1.inside
      have c2 := h1.cell 2
      simp [rdV] at c2
      have f2 := h1.free 2
      have hi := h1.inside
      have HB := Lib.hid (And.intro hb hown)
      clear hown hb h1 hlt
      go_wp2_with fail
      go_ret
      obtain ⟨hb, hown⟩ := HB.out
      have hKW : Kept [q] W (wr.setCell ⟨q, 2, none⟩ (.slice A j c)) := ((Kept.of_below hb).mono (F := []) (fun _ h => absurd h (by simp))).setCell (.inl (by simp)) _
      have hne : ∀ g, (Value.slice A j c).ownBlock = some g → W.heap.size ≤ g := fun g hg => (World.ownsRow.lt hown g hg).1
      have hr2 := row_kept hown ((Kept.refl [q] wr).setCell (p := ⟨q, 2, none⟩) (.inl (by simp)) (.slice A j c)) (fun g hg hin => by
        have := hne g hg
        have h5 := H.out.1.inside
        simp at hin
        omega)
      refine ⟨rfl, .slice A j c, ⟨(H.out.1.below hb H.out.1.inside).put 2 _, ?_, World.ownsRow_nil _ _ _ _, by simp; exact HK.out⟩, hne, hKW⟩
      refine ⟨by simp, ?_⟩
      rcases hr2.2 with h0 | ⟨g, cap, cur, hv, hbg, rest⟩
      · exact .inl h0
      · exact .inr ⟨g, cap, cur, hv, Nat.le_trans H.out.2 hbg, rest⟩

theorem Tryd.infoWrO : (Tryd.prog.info? 74).map (fun i => (i.zero, i.size, i.bytes)) = some (some (.agg #[.int .i64 0, .string ⟨#[]⟩]), 2, 24) := by kernel_rfl
theorem run_wr {wr : World} {B : Nat} {d : Value} {xs : List (Int × ByteArray)} {n : Nat} (hown : wr.ownsRow B 74 2 d n (wcells xs)) (ad : Addr) (m c : Nat) (l : List (Int × ByteArray)) (hl : l.length = m) (hc : ∀ j u, (wcells l)[j]? = some u → wr.cell? (ad.add j) = some u) (hm : 0 < m) (hlen : n + m ≤ 1000) (hbase : B ≤ wr.heap.size) (ty : TypeId) :
    ∃ A c' w', (Builtin.append_ #[63, 63] ty #[d, .slice (some ad) m c]).run Tryd.prog wr = .ok (.slice A (n + m) c') w' ∧ w'.ownsRow B 74 2 (.slice A (n + m) c') (n + m) (wcells (xs ++ l)) ∧ Below B wr w' := by
  obtain ⟨i0, hi, hz0, hz1, hz2⟩ := info_parts Tryd.infoWrO
  have hone : ∀ u ∈ wcells l, u.oneCell' = true := fun u hu => by
    unfold wcells at hu
    simp only [List.mem_flatMap] at hu
    obtain ⟨x, _, hx⟩ := hu
    simp at hx
    rcases hx with rfl | rfl <;> rfl
  obtain ⟨v', w', hrun, h1, h2, _⟩ := run_append_own (P := Tryd.prog) wr B 63 ty 74 i0 (.agg #[.int .i64 0, .string ⟨#[]⟩]) 2 24 Tryd.underlying63 hi hz0 hz1 hz2 rfl (by decide) d n (wcells xs) hown ad m c (wcells l) (by rw [wcells_length, hl]) hc hone (by unfold maxLen; omega) (by omega) hbase
  obtain ⟨A, c', rfl⟩ := rform3 h1
  refine ⟨A, c', w', hrun, ?_, (Below.refl B wr).grown h2 hbase (fun k hk => (World.ownsRow.lt hown k hk).1)⟩
  have : wcells (xs ++ l) = wcells xs ++ wcells l := by simp [wcells]
  rw [this]
  exact h1
theorem wpl_wr {ops : Array Oper} {rest : List Oper} {o : Oper} {a : Act} {Q : Exit → Act → World → Prop} (hgd : o.guard = none) (s x : Operand) (ho : o.op = .call { callee := .builtin .append, args := #[s, x], argTypes := #[63, 63] }) (wr : World) (B : Nat) (d : Value) (xs : List (Int × ByteArray)) (n : Nat) (hs : a.eval s = d)
    (hown : wr.ownsRow B 74 2 d n (wcells xs)) (ad : Addr) (m c : Nat) (hx : a.eval x = .slice (some ad) m c) (l : List (Int × ByteArray)) (hl : l.length = m) (hc : ∀ j u, (wcells l)[j]? = some u → wr.cell? (ad.add j) = some u) (hm : 0 < m) (hlen : n + m ≤ 1000) (hbase : B ≤ wr.heap.size)
    (h : ∀ A c w', w'.ownsRow B 74 2 (.slice A (n + m) c) (n + m) (wcells (xs ++ l)) → Below B wr w' → wpList Tryd.prog ops Q rest (a.put o.dst (.slice A (n + m) c)) w') : wpList Tryd.prog ops Q (o :: rest) a wr := by
  obtain ⟨A, c', w', hrun, hown', hb⟩ := run_wr hown ad m c l hl hc hm hlen hbase o.type
  exact wpList_append_run _ hgd s x 63 63 ho _ _ hs hx _ _ hrun (h A c' w' hown' hb)
theorem cells_box2 (w : World) (i : Int) (d : ByteArray) : ∀ j u, (wcells [(i, d)])[j]? = some u → (w.alloc (.cells #[.int .i64 i, .string d] 74)).cell? ((⟨w.heap.size, 0, none⟩ : Addr).add j) = some u :=
  fun j u hu => World.news_of_block (Has.made w 74 ([.int .i64 i, .string d] : List Value).toArray) j u hu
/-- append(nil, x) of one's own writes. -/
theorem append_wr0 {ops : Array Oper} {rest : List Oper} {o : Oper} {a : Act} {Q : Exit → Act → World → Prop} (hgd : o.guard = none) (s x : Operand)
    (ho : o.op = .call { callee := .builtin .append, args := #[s, x], argTypes := #[63, 63] }) (wr : World) (hs : a.eval s = .slice none 0 0) (i : Int) (d : ByteArray) (hx : a.eval x = .slice (some ⟨wr.heap.size, 0, none⟩) 1 1)
    (h : ∀ A c w', w'.ownsRow wr.heap.size 74 2 (.slice A 1 c) 1 (wcells [(i, d)]) → Below wr.heap.size wr w' → wpList Tryd.prog ops Q rest (a.put o.dst (.slice A 1 c)) w') : wpList Tryd.prog ops Q (o :: rest) a (wr.alloc (.cells #[.int .i64 i, .string d] 74)) := by
  obtain ⟨A, c', w', hrun, hown', hb⟩ := run_wr (wr := wr.alloc (.cells #[.int .i64 i, .string d] 74)) (B := wr.heap.size) (d := .slice none 0 0) (xs := []) (n := 0) (World.ownsRow_nil _ _ _ _) ⟨wr.heap.size, 0, none⟩ 1 1 [(i, d)] rfl (cells_box2 wr i d) (by omega) (by omega) (by simp) o.type
  exact wpList_append_run _ hgd s x 63 63 ho _ _ hs hx _ _ hrun (h A c' w' hown' (((Below.refl _ _).alloc (Nat.le_refl _) _).trans hb))

/-- What a write leaves. -/
def wrTo (Ls : List ByteArray) (Ws : List (Int × ByteArray)) (i : Nat) (d : ByteArray) : List (Int × ByteArray) := if i < Ls.length then Ws ++ [((i : Int), d)] else Ws
theorem rd_set {W w' : World} {A : Option Addr} {n c : Nat} {Xs : List (Int × ByteArray)} (h : RD base W q lv wv Ls Ws) (hbase : base ≤ W.heap.size) (hb : Below W.heap.size W w') (hr : w'.ownsRow W.heap.size 74 2 (.slice A n c) n (wcells Xs)) (hn : Xs.length = n) (hn2 : n ≤ 2) (hq : ∀ g, lv.ownBlock = some g → g ≠ q) :
    RD base (w'.setCell ⟨q, 3, none⟩ (.slice A n c)) q lv (.slice A n c) Ls Xs ∧ (∀ g, (Value.slice A n c).ownBlock = some g → W.heap.size ≤ g) ∧ Kept [q] W (w'.setCell ⟨q, 3, none⟩ (.slice A n c)) := by
  have hne : ∀ g, (Value.slice A n c).ownBlock = some g → W.heap.size ≤ g := fun g hg => (World.ownsRow.lt hr g hg).1
  have hi := h.has.inside
  have hK : Kept [q] w' (w'.setCell ⟨q, 3, none⟩ (.slice A n c)) := (Kept.refl [q] w').setCell (p := ⟨q, 3, none⟩) (.inl (by simp)) _
  refine ⟨⟨(h.below hb).has.put 3 _, row_kept (h.below hb).pages hK (fun g hg hin => by simp at hin; exact hq g hg hin), ?_, h.few.1, by omega⟩, hne, ((Kept.of_below hb).mono (F := []) (fun _ h => absurd h (by simp))).trans (by exact hK)⟩
  have hr2 := row_kept hr hK (fun g hg hin => by have := hne g hg; simp at hin; omega)
  subst hn
  refine ⟨hr2.1, ?_⟩
  rcases hr2.2 with h0 | ⟨g, cap, cur, hv, hbg, rest⟩
  · exact .inl h0
  · exact .inr ⟨g, cap, cur, hv, Nat.le_trans hbase hbg, rest⟩

set_option maxRecDepth 1000000 in
set_option maxHeartbeats 2000000 in
theorem rwrite_no (h : RD base W q lv wv Ls Ws) (i : Nat) (d : ByteArray) (hi : Ls.length ≤ i) (_hi2 : i ≤ 1) :
    Calls Tryd.prog 16 #[.pointer (some ⟨q, 0, none⟩), .int .i64 i, .string d] W fun e w' => e = .returned (.int .i64 3) ∧ W = w' := by
  have hop := rop5 h
  have c2 := h.has.cell 2
  simp [rdV] at c2
  obtain ⟨A, c, hlv⟩ := rform3 h.pages
  obtain ⟨m, hm⟩ : ∃ m, Ls.length = m := ⟨_, rfl⟩
  rw [hlv, hm] at c2
  rw [hm] at hi
  have g0 : decide ((i : Int) < 0) = false := by simp
  have g1 : m ≤ i := hi
  clear h hlv hm hi
  go_enter Tryd.func16, Tryd.ntmps16
  go_wp2_with fail
  refine hop.mono ?_
  rintro e w' ⟨rfl, rfl⟩
  clear hop
  go_wp2_with fail
  go_ret
  exact ⟨rfl, rfl⟩

set_option maxRecDepth 1000000 in
set_option maxHeartbeats 2000000 in
theorem rwrite_first (h : RD base W q lv (.slice none 0 0) Ls []) (hbase : base ≤ W.heap.size) (hq : ∀ g, lv.ownBlock = some g → g ≠ q) (i : Nat) (d : ByteArray) (hi : i < Ls.length) (hd : d.size = 256) :
    Calls Tryd.prog 16 #[.pointer (some ⟨q, 0, none⟩), .int .i64 i, .string d] W fun e w' => e = .returned (.int .i64 0) ∧ ∃ wv', RD base w' q lv wv' Ls [((i : Int), d)] ∧ (∀ g, wv'.ownBlock = some g → W.heap.size ≤ g) ∧ Kept [q] W w' := by
  have hop := rop5 h
  have c2 := h.has.cell 2
  have c3 := h.has.cell 3
  simp [rdV] at c2 c3
  have f3 := h.has.free 3
  have hin := h.has.inside
  obtain ⟨A, c, hlv⟩ := rform3 h.pages
  obtain ⟨m, hm⟩ : ∃ m, Ls.length = m := ⟨_, rfl⟩
  have hib : i ≤ 2 := by have := h.few.1; omega
  have HH := Lib.hid (And.intro h (And.intro hbase hq))
  rw [hlv, hm] at c2
  rw [hm] at hi
  have g0 : decide ((i : Int) < 0) = false := by simp
  have g1 : ¬ (m ≤ i) := by omega
  have g2 : ((d.size : Int) != 256) = false := by rw [hd]; rfl
  clear h hlv hm hi hbase hq
  go_enter Tryd.func16, Tryd.ntmps16
  go_wp2_with fail
  refine hop.mono ?_
  rintro e w' ⟨rfl, rfl⟩
  clear hop
  go_wp2_with (at_builtin; refine append_wr0 rfl _ _ rfl W rfl i d rfl ?_; intro A3 c3' w3 hr3 hb3; have d3 := (hb3.cell (p := ⟨q, 3, none⟩) hin).trans c3; have e3 : w3.frozen? ⟨q, 3, none⟩ = false := (World.frozen?_of_block (hb3.block q hin)).trans f3; have H3 := Lib.hid (And.intro hr3 hb3); clear hr3 hb3)
  go_ret
  obtain ⟨k1, k2, k3⟩ := rd_set HH.out.1 HH.out.2.1 H3.out.2 H3.out.1 rfl (by omega) HH.out.2.2
  exact ⟨rfl, _, k1, k2, k3⟩

set_option maxRecDepth 1000000 in
set_option maxHeartbeats 4000000 in
theorem rwrite_second {x : Int × ByteArray} (h : RD base W q lv wv Ls [x]) (hbase : base ≤ W.heap.size) (hq : ∀ g, lv.ownBlock = some g → g ≠ q) (i : Nat) (d : ByteArray) (hi : i < Ls.length) (hd : d.size = 256) :
    Calls Tryd.prog 16 #[.pointer (some ⟨q, 0, none⟩), .int .i64 i, .string d] W fun e w' => e = .returned (.int .i64 0) ∧ ∃ wv', RD base w' q lv wv' Ls [x, ((i : Int), d)] ∧ (∀ g, wv'.ownBlock = some g → W.heap.size ≤ g) ∧ Kept [q] W w' := by
  have hop := rop5 h
  have c2 := h.has.cell 2
  have c3 := h.has.cell 3
  simp [rdV] at c2 c3
  have f3 := h.has.free 3
  have hin := h.has.inside
  obtain ⟨A, c, hlv⟩ := rform3 h.pages
  obtain ⟨gw, capw, curw, hwv, -, hgcw, -, -, -, hgtw⟩ : ∃ gw capw curw, wv = .slice (some ⟨gw, 0, none⟩) 1 capw ∧ base ≤ gw ∧ W.heap[gw]? = some (.cells curw 74 (0, 0)) ∧ 1 ≤ capw ∧ capw ≤ maxLen ∧ curw.size = capw * 2 ∧ curw.toList.take (1 * 2) = wcells [x] := by
    rcases h.writes.2 with ⟨_, h0⟩ | h0
    · simp at h0
    · exact h0
  have hgl : gw < W.heap.size := (Array.getElem?_eq_some_iff.1 hgcw).1
  have hcur : ∀ (j : Nat) (u : Value), (wcells [x])[j]? = some u → curw.toList[j]? = some u := fun j u hu => by
    have hkl : j < 1 * 2 := by
      have := (List.getElem?_eq_some_iff.1 hu).1
      rw [wcells_length] at this
      simpa using this
    rw [← hgtw, List.getElem?_take, if_pos hkl] at hu
    exact hu
  obtain ⟨m, hm⟩ : ∃ m, Ls.length = m := ⟨_, rfl⟩
  have hib : i ≤ 2 := by have := h.few.1; omega
  have HH := Lib.hid (And.intro h (And.intro hbase hq))
  have HC := Lib.hid (fun W' (hb : Below W.heap.size W W') => And.intro ((hb.cell (p := ⟨q, 3, none⟩) hin).trans c3) ((World.frozen?_of_block (a := ⟨q, 3, none⟩) (hb.block q hin)).trans f3))
  have HN := Lib.hid (fun W' (hb : Below W.heap.size W W') j u (hu : (wcells [x])[j]? = some u) => World.news_of_block (w := W') ((hb.block gw hgl).trans hgcw) j u (hcur j u hu))
  rw [hlv, hm] at c2
  rw [hm] at hi
  have g0 : decide ((i : Int) < 0) = false := by simp
  have g1 : ¬ (m ≤ i) := by omega
  have g2 : ((d.size : Int) != 256) = false := by rw [hd]; rfl
  subst hwv
  clear h hlv hm hi hbase hq hgcw hgtw hcur
  go_enter Tryd.func16, Tryd.ntmps16
  go_wp2_with fail
  refine hop.mono ?_
  rintro e w' ⟨rfl, rfl⟩
  clear hop
  go_wp2_with first
    | (at_builtin; refine wpl_wr rfl _ _ rfl W W.heap.size (.slice none 0 0) [] 0 rfl (World.ownsRow_nil _ _ _ _) ⟨gw, 0, none⟩ 1 capw rfl [x] rfl (HN.out W (Below.refl _ _)) (by omega) (by omega) (Nat.le_refl _) ?_; intro A3 c3' w2 hown2 hb2; have H2 := Lib.hid (And.intro hown2 hb2); clear hown2 hb2)
    | (at_builtin; refine wpl_wr rfl _ _ rfl (w2.alloc (.cells #[.int .i64 i, .string d] 74)) W.heap.size _ [x] 1 rfl (World.ownsRow.alloc H2.out.1 _) ⟨w2.heap.size, 0, none⟩ 1 1 rfl [((i : Int), d)] rfl (cells_box2 w2 i d) (by omega) (by omega) (by have := H2.out.2.size; simp; omega) ?_; intro A4 c4' w3 hown3 hb3; have hW3 : Below W.heap.size W w3 := (H2.out.2.alloc H2.out.2.size _).trans hb3; have d3 := (HC.out w3 hW3).1; have e3 := (HC.out w3 hW3).2; have H3 := Lib.hid (And.intro hown3 hW3); clear hown3 hb3 hW3)
  go_ret
  obtain ⟨k1, k2, k3⟩ := rd_set HH.out.1 HH.out.2.1 H3.out.2 H3.out.1 rfl (by omega) HH.out.2.2
  exact ⟨rfl, _, k1, k2, k3⟩

/-- The meta that is chosen, of the document's own device. -/
def rdE (Ls : List ByteArray) (i : Nat) : Int := if i < Ls.length then 0 else 3
def rdB (Ls : List ByteArray) (Ws : List (Int × ByteArray)) (i : Nat) : ByteArray := if h : i < Ls.length then nowW Ls[i] i Ws else ⟨#[]⟩
set_option maxRecDepth 1000000 in
set_option maxHeartbeats 4000000 in
theorem rchooseOf5 (h : RD base W q lv wv Ls Ws) (h1 : 1 ≤ Ls.length) :
    Calls Tryd.prog 19 #[.pointer (some ⟨q, 0, none⟩)] W fun e w' => e = .returned (.tuple #[choV (rdE Ls 0) (rdE Ls 1) (rdB Ls Ws 0).data.toList (rdB Ls Ws 1).data.toList, .int .i64 (choE (rdE Ls 0) (rdE Ls 1) (rdB Ls Ws 0).data.toList (rdB Ls Ws 1).data.toList)]) ∧ Below W.heap.size W w' := by
  have hz : Below W.heap.size W (W.alloc metaZ) := (Below.refl _ _).alloc (Nat.le_refl _) _
  have hr0 := rread_any (h.below hz) 0 (by omega)
  have hr1 := rread_any (h.below hz) 1 (by omega)
  have e0 : rdE Ls 0 = 0 := by unfold rdE; rw [if_pos (by omega)]
  have hb0 : (if h : 0 < Ls.length then nowW Ls[0] ((0 : Nat) : Int) Ws else ⟨#[]⟩) = rdB Ls Ws 0 := rfl
  have hb1 : (if h : 1 < Ls.length then nowW Ls[1] ((1 : Nat) : Int) Ws else ⟨#[]⟩) = rdB Ls Ws 1 := rfl
  have he0 : (if 0 < Ls.length then (0 : Int) else 3) = 0 := by rw [if_pos (by omega)]
  have he1 : (if 1 < Ls.length then (0 : Int) else 3) = rdE Ls 1 := rfl
  rw [hb0, he0] at hr0
  rw [hb1, he1] at hr1
  rw [e0]
  have hE1 : rdE Ls 1 = 0 ∨ rdE Ls 1 = 3 := by unfold rdE; split <;> simp
  have hch := fun w1 => refChoose_any (rdB Ls Ws 0) (rdB Ls Ws 1) w1
  generalize rdB Ls Ws 0 = b0 at *
  generalize rdB Ls Ws 1 = b1 at *
  generalize rdE Ls 1 = E1 at *
  have HZ := Lib.hid hz
  have HCH := Lib.hid hch
  clear h h1 hz e0 hb0 hb1 he0 he1 hch
  go_enter Tryd.func19, Tryd.ntmps19
  go_wp2_with fail
  refine hr0.mono ?_
  rintro e w' ⟨rfl, rfl⟩
  clear hr0
  go_wp2_with fail
  refine hr1.mono ?_
  rintro e w' ⟨rfl, rfl⟩
  clear hr1
  rcases hE1 with rfl | rfl
  · obtain ⟨c0, h0⟩ : ∃ c, choN 0 0 b0.data.toList b1.data.toList 0 = c := ⟨_, rfl⟩
    obtain ⟨c1, h1⟩ : ∃ c, choN 0 0 b0.data.toList b1.data.toList 1 = c := ⟨_, rfl⟩
    obtain ⟨c2, h2⟩ : ∃ c, choN 0 0 b0.data.toList b1.data.toList 2 = c := ⟨_, rfl⟩
    obtain ⟨c3, h3⟩ : ∃ c, choN 0 0 b0.data.toList b1.data.toList 3 = c := ⟨_, rfl⟩
    have hV : choV 0 0 b0.data.toList b1.data.toList = metaV c0 c1 c2 c3 := by unfold choV; rw [h0, h1, h2, h3]
    obtain ⟨E, hE⟩ : ∃ E, choE 0 0 b0.data.toList b1.data.toList = E := ⟨_, rfl⟩
    have hcc := HCH.out (W.alloc metaZ)
    rw [hV, hE] at hcc
    unfold metaV at hcc
    have HV := Lib.hid (And.intro hV hE)
    have hH : Has (W.alloc metaZ) W.heap.size 23 #[.int .i64 0, .int .i64 0, .int .i64 0, .int .i64 0] := Has.made W _ _
    clear h0 h1 h2 h3 hV hE
    go_wp2_with fail
    refine hcc.mono ?_
    rintro e w1 ⟨rfl, hb⟩
    have hA := hH.below hb hH.inside
    obtain ⟨⟨p0, p1, p2, p3⟩, g0, g1, g2, g3⟩ := hA.four
    have HM := Lib.hid (And.intro (hA.metaSet c0 c1 c2 c3).four.1 (metaSet_below (HZ.out.trans (hb.mono HZ.out.size)) (Nat.le_refl _) c0 c1 c2 c3))
    clear hA hb hcc hH
    go_wp2_with fail
    change bodyPost _ _ _ _ _ (metaSet w1 W.heap.size c0 c1 c2 c3)
    obtain ⟨⟨k0, k1, k2, k3⟩, hb⟩ := HM.out
    rw [HV.out.1, HV.out.2]
    clear HM p0 p1 p2 p3 g0 g1 g2 g3
    generalize metaSet _ _ _ _ _ _ = wz at *
    exact bodyPost_ret (v := .tuple #[.agg #[.int .i64 c0, .int .i64 c1, .int .i64 c2, .int .i64 c3], .int .i64 E]) (by simp [results, Tryd.results19, go_sem, k0, k1, k2, k3]) rfl ⟨rfl, hb⟩
  · go_wp2_with fail
    have hV : choV 0 3 b0.data.toList b1.data.toList = metaV 0 0 0 0 := by unfold choV choN; simp
    have hE : choE 0 3 b0.data.toList b1.data.toList = 3 := by unfold choE; simp
    rw [hV, hE]
    exact bodyPost_ret (v := .tuple #[.agg #[.int .i64 0, .int .i64 0, .int .i64 0, .int .i64 0], .int .i64 3]) (by simp [results, Tryd.results19, go_sem]) rfl ⟨rfl, (Below.refl _ _).alloc (Nat.le_refl _) _⟩
end
end Go.Proofs.YthcpjpebahiikaaDoor

namespace Go.Proofs.YthcpjpebahiikaaDoor
open Go.RowKit Go.Lib

/-- Both say the same of two pages. -/
structure Sim (s : DevS) (Ls : List ByteArray) (Ws : List (Int × ByteArray)) : Prop where
  idle : Idle s
  len : s.pages.length = Ls.length
  at_ : ∀ i (h : i < Ls.length), s.pages[i]? = some (nowW Ls[i] i Ws)
  cap : s.cap ≤ 1000 ∧ s.line.length ≤ Ws.length
  few : Ls.length ≤ 2
theorem Sim.readE {s : DevS} {Ls : List ByteArray} {Ws : List (Int × ByteArray)} (h : Sim s Ls Ws) (i : Nat) : readE s i = rdE Ls i := by
  unfold Go.Proofs.YthcpjpebahiikaaDoor.readE rdE
  rw [if_pos h.idle.on]
  by_cases c : i < Ls.length
  · rw [if_pos (by have := h.len; omega), if_pos c]
  · rw [if_neg (by have := h.len; omega), if_neg c]
theorem Sim.readB {s : DevS} {Ls : List ByteArray} {Ws : List (Int × ByteArray)} (h : Sim s Ls Ws) (i : Nat) : readB s i = rdB Ls Ws i := by
  unfold Go.Proofs.YthcpjpebahiikaaDoor.readB rdB
  rw [if_pos ⟨h.idle.on, by omega⟩, Int.toNat_natCast]
  by_cases c : i < Ls.length
  · rw [dif_pos c, h.at_ i c]
    rfl
  · rw [dif_neg c, List.getElem?_eq_none (by have := h.len; omega)]
    rfl
theorem Sim.choose {s : DevS} {Ls : List ByteArray} {Ws : List (Int × ByteArray)} (h : Sim s Ls Ws) :
    chooseV s = choV (rdE Ls 0) (rdE Ls 1) (rdB Ls Ws 0).data.toList (rdB Ls Ws 1).data.toList ∧ chooseE s = choE (rdE Ls 0) (rdE Ls 1) (rdB Ls Ws 0).data.toList (rdB Ls Ws 1).data.toList := by
  have e0 := h.readE 0
  have e1 := h.readE 1
  have b0 := h.readB 0
  have b1 := h.readB 1
  unfold chooseV chooseE
  have z0 : ((0 : Nat) : Int) = 0 := rfl
  have z1 : ((1 : Nat) : Int) = 1 := rfl
  rw [z0] at e0 b0
  rw [z1] at e1 b1
  rw [e0, e1, b0, b1]
  exact ⟨rfl, rfl⟩
theorem Sim.new {k : Nat} (hk : k ≤ 2) : Sim (longer (newS 2) k) (List.replicate k blank) [] where
  idle := longer_idle (newS_idle 2) k
  len := by simp [longer, newS]
  at_ := fun i h => by
    simp at h
    simp only [longer, newS, nowW, List.nil_append]
    rw [List.getElem?_replicate, if_pos h]
    simp
  cap := by simp [longer, newS]
  few := by simpa using hk
theorem Sim.write {s : DevS} {Ls : List ByteArray} {Ws : List (Int × ByteArray)} (h : Sim s Ls Ws) (hw : Ws.length ≤ 3) (i : Nat) (d : ByteArray) (hd : d.size = 256) :
    writeE s i d = (if i < Ls.length then 0 else 3) ∧ Sim (writeS s i d) Ls (wrTo Ls Ws i d) := by
  by_cases c : i < Ls.length
  · obtain ⟨w1, w2, w3⟩ := h.idle.write (n := (i : Int)) (d := d) (by omega) (by have := h.len; omega) hd
    rw [w1, w2, if_pos c]
    have e1 : wrTo Ls Ws i d = Ws ++ [((i : Int), d)] := by unfold wrTo; rw [if_pos c]
    rw [e1]
    refine ⟨rfl, w3, ?_, fun j hj => ?_, ⟨?_, ?_⟩, h.few⟩
    · show (s.pages.set _ d).length = _
      rw [List.length_set]
      exact h.len
    · show (s.pages.set ((i : Int).toNat) d)[j]? = _
      rw [Int.toNat_natCast, nowW_snoc]
      by_cases e : i = j
      · subst e
        rw [if_pos rfl, List.getElem?_set_self (by have := h.len; omega)]
      · rw [if_neg (by simp; omega), List.getElem?_set_ne e]
        exact h.at_ j hj
    · show roomed s.line s.cap ≤ 1000
      have h1 := h.cap.1
      have h2 := h.cap.2
      unfold roomed
      split <;> omega
    · show (s.line ++ [((i : Int), d)]).length ≤ (Ws ++ [((i : Int), d)]).length
      have := h.cap.2
      simp
      omega
  · have hf : faultE s (i : Int) d = 3 := by unfold faultE; rw [if_neg (by have := h.len; omega)]
    have hp := h.idle.pow
    have e1 : wrTo Ls Ws i d = Ws := by unfold wrTo; rw [if_neg c]
    refine ⟨?_, ?_⟩
    · unfold writeE
      rw [if_pos h.idle.on, hp, if_pos h.idle.on, hf, if_neg c]
    · have e2 : writeS s (i : Int) d = s := by unfold writeS; rw [if_pos h.idle.on, hp, hf, if_neg (by decide)]
      rw [e1, e2]
      exact h

theorem grown5 (k : Nat) (h : k ≤ 2) : growAE (newS 2) k = 0 ∧ growAS (newS 2) k = longer (newS 2) k := by
  have e : growE (newS 2) k = 0 := by
    unfold growE
    rw [if_neg (by simp [newS]), if_neg (by simp [newS]; omega)]
  rw [((newS_idle 2).grow _).1, ((newS_idle 2).grow _).2]
  refine ⟨e, ?_⟩
  unfold growS
  rw [if_pos e]
  congr 1
theorem wrTo_len (Ls : List ByteArray) (Ws : List (Int × ByteArray)) (i : Nat) (d : ByteArray) : (wrTo Ls Ws i d).length ≤ Ws.length + 1 := by unfold wrTo; split <;> simp
/-- In world W stand both, in blocks from B on; nothing that was there below B in w has turned. -/
def Both (B : Nat) (w : World) (p : Nat) (s : DevS) (q : Nat) (Ls : List ByteArray) (Ws : List (Int × ByteArray)) (W : World) : Prop :=
  ∃ F lv wv, DevAt W p s F ∧ (∀ k ∈ F, B ≤ k) ∧ RD B W q lv wv Ls Ws ∧ (B ≤ q ∧ q ∉ F) ∧ (∀ g, lv.ownBlock = some g → g ∉ F) ∧ (∀ g, wv.ownBlock = some g → g ∉ F) ∧ Below B w W ∧ B ≤ W.heap.size ∧ (Ls = [] → lv = .slice none 0 0) ∧ (Ws = [] → wv = .slice none 0 0)
section
variable {B p q : Nat} {w W W' : World} {s : DevS} {Ls : List ByteArray} {Ws : List (Int × ByteArray)}
theorem Both.below (h : Both B w p s q Ls Ws W) (hb : Below W.heap.size W W') : Both B w p s q Ls Ws W' := by
  obtain ⟨F, lv, wv, h1, h2, h3, h4, h5, h6, h7, h8, h9, h10⟩ := h
  exact ⟨F, lv, wv, (h1.goes hb).1, h2, h3.below hb, h4, h5, h6, h7.trans (hb.mono h8), Nat.le_trans h8 hb.size, h9, h10⟩
theorem Both.out (h : Both B w p s q Ls Ws W) : Below B w W := by
  obtain ⟨F, lv, wv, h1, h2, h3, h4, h5, h6, h7, _⟩ := h
  exact h7
theorem rd_lv_ne {base : Nat} {lv wv : Value} (h : RD base W q lv wv Ls Ws) : ∀ g, lv.ownBlock = some g → g ≠ q := fun g hg e => by
  subst e
  rcases h.pages.2 with ⟨rfl, _⟩ | ⟨g', cap, cur, rfl, _, hgc, _⟩
  · simp [Value.ownBlock] at hg
  · simp [Value.ownBlock] at hg
    subst hg
    have h3 : W.heap[g']? = _ := h.has
    rw [hgc] at h3
    simp at h3
/-- A call of the program's device. -/
theorem Both.dev (h : Both B w p s q Ls Ws W) : ∃ F, DevAt W p s F ∧ ∀ s' W', (∃ F', DevAt W' p s' F' ∧ Goes F W F' W') → Both B w p s' q Ls Ws W' := by
  obtain ⟨F, lv, wv, h1, h2, h3, h4, h5, h6, h7, h8, h9, h10⟩ := h
  refine ⟨F, h1, fun s' W' ⟨F', k1, k2⟩ => ?_⟩
  have hold : ∀ x, x < W.heap.size → x ∉ F → x ∉ F' := fun x hx hn hF => by
    rcases k2.2 x hF with h | h
    · exact hn h
    · omega
  refine ⟨F', lv, wv, k1, fun k hk => (k2.2 k hk).elim (h2 k) (fun h => Nat.le_trans h8 h), h3.kept k2.1 h4.2 h5 h6, ⟨h4.1, hold q h3.has.inside h4.2⟩, fun g hg => hold g (World.ownsRow.lt h3.pages g hg).2 (h5 g hg), fun g hg => hold g (World.ownsRow.lt h3.writes g hg).2 (h6 g hg), h7.trans (k2.1.below h8 h2), Nat.le_trans h8 k2.1.size, h9, h10⟩

theorem both_grow_d (h : Both B w p s q Ls Ws W) (n : Int) : Calls Tryd.prog 13 #[.pointer (some ⟨p, 0, none⟩), .int .i64 n] W fun e w' => e = .returned (.int .i64 (growAE s n)) ∧ Both B w p (growAS s n) q Ls Ws w' := by
  obtain ⟨F, hd, hback⟩ := h.dev
  exact (grow_any p s F n W hd).mono fun e w' he => ⟨he.1, hback _ _ he.2⟩
theorem both_write_d (h : Both B w p s q Ls Ws W) (n : Int) (d : ByteArray) (hcap : s.cap ≤ 1000) : Calls Tryd.prog 15 #[.pointer (some ⟨p, 0, none⟩), .int .i64 n, .string d] W fun e w' => e = .returned (.int .i64 (writeE s n d)) ∧ Both B w p (writeS s n d) q Ls Ws w' := by
  obtain ⟨F, hd, hback⟩ := h.dev
  exact (write_any p s F n d W hd (by omega)).mono fun e w' he => ⟨he.1, hback _ _ he.2⟩
theorem both_mwrite_d (h : Both B w p s q Ls Ws W) (hcap : s.cap ≤ 1000) (t r f x : Int) (ht : IsInt t) (hr : IsInt r) (hf : IsInt f) (hx : IsInt x) (hok : MetaOK t r f x) :
    Calls Tryd.prog 17 #[.pointer (some ⟨p, 0, none⟩), metaV t r f x] W fun e w' => e = .returned (.int .i64 (writeE s (t % 2) (mB t r f x))) ∧ Both B w p (writeS s (t % 2) (mB t r f x)) q Ls Ws w' := by
  refine (mwrite_ok _ t r f x (writeE s (t % 2) (mB t r f x)) W (fun _ w' => Both B w p (writeS s (t % 2) (mB t r f x)) q Ls Ws w') ht hr hf hx hok (fun w1 hb => both_write_d (h.below hb) _ _ hcap)).mono ?_
  rintro e w' ⟨rfl, _, _, hq⟩
  exact ⟨rfl, hq⟩
theorem both_choose_d (h : Both B w p s q Ls Ws W) : Calls Tryd.prog 18 #[.pointer (some ⟨p, 0, none⟩)] W fun e w' => e = .returned (.tuple #[chooseV s, .int .i64 (chooseE s)]) ∧ Both B w p s q Ls Ws w' ∧ Below W.heap.size W w' := by
  obtain ⟨F, hd, hback⟩ := h.dev
  exact (choose_any p s F W hd).mono fun e w' he => ⟨he.1, h.below he.2, he.2⟩

/-- A call of the document's device. -/
theorem Both.ref (h : Both B w p s q Ls Ws W) : ∃ lv wv, RD B W q lv wv Ls Ws ∧ (Ls = [] → lv = .slice none 0 0) ∧ (Ws = [] → wv = .slice none 0 0) ∧ B ≤ W.heap.size ∧ (∀ lv' wv' Ls' Ws' W', RD B W' q lv' wv' Ls' Ws' → (lv' = lv ∨ ∀ g, lv'.ownBlock = some g → W.heap.size ≤ g) → (wv' = wv ∨ ∀ g, wv'.ownBlock = some g → W.heap.size ≤ g) → Kept [q] W W' →
    (Ls' = [] → lv' = .slice none 0 0) → (Ws' = [] → wv' = .slice none 0 0) → Both B w p s q Ls' Ws' W') := by
  obtain ⟨F, lv, wv, h1, h2, h3, h4, h5, h6, h7, h8, h9, h10⟩ := h
  refine ⟨lv, wv, h3, h9, h10, h8, fun lv' wv' Ls' Ws' W' k1 k2 k3 k4 k5 k6 => ?_⟩
  have hlt := h1.lt
  have hnew : ∀ g, W.heap.size ≤ g → g ∉ F := fun g hg hF => by have := hlt g hF; omega
  refine ⟨F, lv', wv', h1.kept k4 (fun x hx hG => by simp at hG; subst hG; exact h4.2 hx), h2, k1, h4, fun g hg => ?_, fun g hg => ?_, h7.trans (k4.below h8 (by simpa using h4.1)), Nat.le_trans h8 k4.size, k5, k6⟩
  · rcases k2 with rfl | k2
    · exact h5 g hg
    · exact hnew g (k2 g hg)
  · rcases k3 with rfl | k3
    · exact h6 g hg
    · exact hnew g (k3 g hg)
theorem both_grow_r (h : Both B w p s q [] [] W) (k : Nat) (hk : k ≤ 2) (hk1 : 1 ≤ k) : Calls Tryd.prog 14 #[.pointer (some ⟨q, 0, none⟩), .int .i64 k] W fun e w' => e = .returned (.int .i64 0) ∧ Both B w p s q (List.replicate k blank) [] w' := by
  obtain ⟨lv, wv, h1, h2, h3, h4, hback⟩ := h.ref
  obtain rfl := h2 rfl
  obtain rfl := h3 rfl
  refine (rgrow5 h1 h4 k hk).mono fun e w' he => ⟨he.1, ?_⟩
  obtain ⟨lv', k1, k2, k3⟩ := he.2
  exact hback lv' _ _ _ w' k1 (.inr k2) (.inl rfl) k3 (fun e => by simp at e; omega) (fun _ => rfl)
theorem both_write_r (h : Both B w p s q Ls Ws W) (hw : Ws.length ≤ 1) (i : Nat) (hi : i ≤ 1) (d : ByteArray) (hd : d.size = 256) : Calls Tryd.prog 16 #[.pointer (some ⟨q, 0, none⟩), .int .i64 i, .string d] W fun e w' => e = .returned (.int .i64 (if i < Ls.length then 0 else 3)) ∧ Both B w p s q Ls (wrTo Ls Ws i d) w' := by
  by_cases c : i < Ls.length
  · rw [if_pos c]
    have e1 : wrTo Ls Ws i d = Ws ++ [((i : Int), d)] := by unfold wrTo; rw [if_pos c]
    rw [e1]
    obtain ⟨lv, wv, h1, h2, h3, h4, hback⟩ := h.ref
    match Ws, hw, h1, h3, hback with
    | [], _, h1, h3, hback =>
      obtain rfl := h3 rfl
      refine (rwrite_first h1 h4 (rd_lv_ne h1) i d c hd).mono fun e w' he => ⟨he.1, ?_⟩
      obtain ⟨wv', k1, k2, k3⟩ := he.2
      exact hback lv wv' _ _ w' k1 (.inl rfl) (.inr k2) k3 h2 (fun e => by simp at e)
    | [x], _, h1, h3, hback =>
      refine (rwrite_second h1 h4 (rd_lv_ne h1) i d c hd).mono fun e w' he => ⟨he.1, ?_⟩
      obtain ⟨wv', k1, k2, k3⟩ := he.2
      exact hback lv wv' _ _ w' k1 (.inl rfl) (.inr k2) k3 h2 (fun e => by simp at e)
  · rw [if_neg c]
    have e1 : wrTo Ls Ws i d = Ws := by unfold wrTo; rw [if_neg c]
    rw [e1]
    obtain ⟨lv, wv, h1, h2, h3, h4, hback⟩ := h.ref
    exact (rwrite_no h1 i d (by omega) hi).mono fun e w' he => ⟨he.1, he.2 ▸ h⟩
theorem both_choose_r (h : Both B w p s q Ls Ws W) (h1 : 1 ≤ Ls.length) : Calls Tryd.prog 19 #[.pointer (some ⟨q, 0, none⟩)] W fun e w' => e = .returned (.tuple #[choV (rdE Ls 0) (rdE Ls 1) (rdB Ls Ws 0).data.toList (rdB Ls Ws 1).data.toList, .int .i64 (choE (rdE Ls 0) (rdE Ls 1) (rdB Ls Ws 0).data.toList (rdB Ls Ws 1).data.toList)]) ∧ Both B w p s q Ls Ws w' ∧ Below W.heap.size W w' := by
  obtain ⟨lv, wv, k1, k2, k3, k4, hback⟩ := h.ref
  exact (rchooseOf5 k1 h1).mono fun e w' he => ⟨he.1, h.below he.2, he.2⟩
theorem both_new {F : List Nat} (h1 : DevAt W p s F) (h2 : ∀ k ∈ F, B ≤ k) (hb : Below B w W) (hB : B ≤ W.heap.size) : Both B w p s W.heap.size [] [] (W.alloc (.cells (rdV (.slice none 0 0) (.slice none 0 0)) 65)) := by
  have hba : Below W.heap.size W (W.alloc (.cells (rdV (.slice none 0 0) (.slice none 0 0)) 65)) := (Below.refl _ _).alloc (Nat.le_refl _) _
  exact ⟨F, _, _, (h1.goes hba).1, h2, rd_new B W, ⟨hB, fun hF => by have := h1.lt _ hF; omega⟩, by simp [Value.ownBlock], by simp [Value.ownBlock], hb.trans (hba.mono hB), by simp; omega, fun _ => rfl, fun _ => rfl⟩
theorem mwrite_none (w : World) : Calls Tryd.prog 17 #[.pointer none, .agg #[.int .i64 0, .int .i64 0, .int .i64 0, .int .i64 0]] w fun e w' => e = .returned (.int .i64 14) ∧ Below w.heap.size w w' := by
  have i0 : IsInt 0 := by unfold IsInt; omega
  have h := mwrite_ok (.pointer none) 0 0 0 0 14 w (fun w1 w' => w1 = w') i0 i0 i0 i0 (by unfold MetaOK Fits6; omega) (fun w1 _ => write_nil _ _ w1)
  unfold metaV at h
  refine h.mono ?_
  rintro e w' ⟨rfl, w1, hb, rfl⟩
  exact ⟨rfl, hb⟩
end
end Go.Proofs.YthcpjpebahiikaaDoor
