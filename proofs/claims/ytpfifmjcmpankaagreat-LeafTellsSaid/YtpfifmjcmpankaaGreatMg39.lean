/-
  Walks over the document's own answers to chapter 8: FindItem.
-/
import Derived.Test.YtpfifmjcmpankaaGreatMg29
import Derived.Test.YtpfifmjcmpankaaGreatMg25
import Derived.Deep.QuietTactic
import Derived.BigQuiet
namespace Go.Proofs.YtpfifmjcmpankaaGreat
open Go.RowKit Go.Lib

set_option maxRecDepth 100000 in
set_option maxHeartbeats 1000000 in
theorem refFind_any (v : Value) (l : List Itm) (k : ByteArray) (w : World) (hr : ReadsIt w w.heap.size v l) (hz : ∀ y ∈ l, y.key.size ≤ 9223372036854775807) (hk : k.size ≤ 9223372036854775807) (hl : l.length ≤ 1000000) :
    Calls Tryz.prog 20 #[v, .string k] w fun e w' => e = .returned (.tuple #[.int .i64 (lb l k : Nat), .bool (isAt l k)]) ∧ Below w.heap.size w w' := by
  obtain ⟨A, c, rfl, _, _, _, hc⟩ := hr
  have hlbl := lb_le l k
  have hlat := lb_at (l := l) (k := k)
  have hlbw := @lb_below l k
  have hisat := isAt_iff (l := l) (k := k)
  obtain ⟨n, hn⟩ : ∃ n, l.length = n := ⟨_, rfl⟩
  obtain ⟨m, hm⟩ : ∃ m, lb l k = m := ⟨_, rfl⟩
  obtain ⟨T, hT⟩ : ∃ T, isAt l k = T := ⟨_, rfl⟩
  rw [hm, hT]
  rw [hn] at hc hlbl hl ⊢
  rw [hm] at hlbl
  rw [hT] at hisat
  have HH : Hid (l.length = n ∧ lb l k = m ∧ isAt l k = T ∧ (∀ h : m < l.length, ltK l[m].key k = false) ∧ (∀ i (_ : i < m) (hi : i < l.length), ltK l[i].key k = true) ∧ (T = true ↔ ∃ h : m < l.length, l[m].key = k)) := Lib.hid ⟨hn, hm, hT, fun h => by subst hm; exact hlat h, fun i h1 h2 => hlbw (by rw [hm]; exact h1) h2, by subst hm; exact hisat⟩
  have HC := Lib.hid (And.intro hc hz)
  clear hlat hlbw hisat hc hz hm hT hn
  go_enter Tryz.func20, Tryz.ntmps20
  go_wp2_with fail
  go_loopw [6] (fun i wr => ∃ j : Nat, j ≤ m ∧ i = .int .i64 j ∧ Below w.heap.size w wr) (fun i _ => m - (RowKit.intOf i).toNat)
  case atStart => exact ⟨0, Nat.zero_le _, rfl, Below.refl _ _⟩
  case round =>
    obtain ⟨j, hj, rfl, hbl⟩ := hrel
    have hbs := hbl.size
    by_cases hlt : j < n
    · obtain ⟨hc, hz⟩ := HC.out
      obtain ⟨b, off, rfl, hbb, hcell⟩ := hc (by omega)
      have hjl : j < l.length := by rw [HH.out.1]; exact hlt
      obtain ⟨c0, c1, c2, c3⟩ := (hcell.below hbl hbb) j hjl
      have hlt' : (j : Int) < n := by omega
      have hL := less_any l[j].key k wr (hz _ (by simp)) hk
      have hjn : j < l.length := hjl
      have hx : (j < m → ltK l[j].key k = true) ∧ (j = m → ltK l[j].key k = false ∧ (l[j].key = k ↔ T = true)) := by
        refine ⟨fun h => HH.out.2.2.2.2.1 j h hjl, fun h => ?_⟩
        subst h
        refine ⟨HH.out.2.2.2.1 hjl, ?_⟩
        rw [HH.out.2.2.2.2.2]
        exact ⟨fun h => ⟨hjl, h⟩, fun ⟨_, h⟩ => h⟩
      generalize l[j] = x at *
      have HX := Lib.hid (And.intro hx hbl)
      clear hc hz hcell hx hbl c1 c2 c3
      by_cases hjm : j < m
      · rw [HX.out.1.1 hjm] at hL
        have c0' := c0
        go_wp2_with fail
        refine hL.mono ?_
        rintro e w1 ⟨rfl, hb1⟩
        clear hL c0
        go_wp2_with fail
        go_roundw
        case rel => exact ⟨j + 1, by omega, by go_num, HX.out.2.trans (hb1.mono hbs)⟩
        case measure => simp [RowKit.intOf]; omega
      · obtain rfl : j = m := by omega
        obtain ⟨hx1, hx2⟩ := HX.out.1.2 rfl
        rw [hx1] at hL
        go_wp2_with fail
        refine hL.mono ?_
        rintro e w1 ⟨rfl, hb1⟩
        have c01 := (hb1.cell (p := ⟨b, off + j * 4, none⟩) (Nat.lt_of_lt_of_le hbb hbs)).trans c0
        have HB := Lib.hid (HX.out.2.trans (hb1.mono hbs))
        clear hL c0 hb1
        have hT2 : (x.key.toList == k.toList) = T := by
          cases T
          · rw [beq_eq_false_iff_ne]
            intro h
            have := hx2.1 (toList_inj h)
            cases this
          · rw [beq_iff_eq, hx2.2 rfl]
        have HT2 := Lib.hid hT2
        clear hx2 hT2
        go_wp2_with fail
        go_quiet (fail)
        go_wp2_with fail
        go_ret2
        refine ⟨?_, below_drewI HB.out nq⟩
        rw [← HT2.out]
        rfl
    · have hjm : j = m := by omega
      have hmn : m = n := by omega
      have hTf : T = false := by
        cases T
        · rfl
        · obtain ⟨h, _⟩ := HH.out.2.2.2.2.2.1 rfl
          have := HH.out.1
          omega
      subst hTf hjm hmn
      go_wp2_with fail
      go_quiet (fail)
      go_wp2_with fail
      go_ret2
      exact ⟨rfl, below_drewI hbl nq⟩

/-- append in a region, its run known. -/
theorem wpList_append_run8 {P : Program} (w : World) {ops : Array Oper} {rest : List Oper} {o : Oper} {a : Act} {Q : Exit → Act → World → Prop} (hw : Region.wanted o (yielded ops a.tmps) = true) (s x : Operand) (t tn : TypeId)
    (ho : o.op = .call { callee := .builtin .append, args := #[s, x], argTypes := #[t, tn] }) (vs vx : Value) (hs : a.eval s = vs) (hx : a.eval x = vx)
    (v' : Value) (w' : World) (hr : (Builtin.append_ #[t, tn] o.type #[vs, vx]).run P w = .ok v' w') (h : wpList P ops Q rest (a.put o.dst v') w') : wpList P ops Q (o :: rest) a w := by
  show (if Region.wanted o (yielded ops a.tmps) then o.wp P a w (wpList P ops Q rest) Q ∨ (o.asks P a w ∧ LetsOut Q) else wpList P ops Q rest (a.put o.dst undef) w)
  rw [if_pos hw]
  exact .inl (Lib.wp_append_run w s x t tn ho vs vx hs hx v' w' hr h)
/-- append(row, v...) of items, v of any length, as a run. -/
theorem run_its8 {wr : World} {base : Nat} {d : Value} {xs : List Itm} (hown : wr.ownsRow base 24 4 d xs.length (ilist xs)) {B : Nat} {v : Value} {l : List Itm} (hr : ReadsIt wr B v l) (hlen : xs.length + l.length ≤ 1000000) (hbase : base ≤ wr.heap.size) (ty : TypeId) :
    ∃ A c w', (Builtin.append_ #[22, 22] ty #[d, v]).run Tryz.prog wr = .ok (.slice A (xs ++ l).length c) w' ∧ w'.ownsRow base 24 4 (.slice A (xs ++ l).length c) (xs ++ l).length (ilist (xs ++ l)) ∧ Below base wr w' := by
  obtain ⟨i0, hi, hz0, hz1, hz2⟩ := info_parts Tryz.infoItem
  obtain ⟨A, c, rfl, _, _, hnil, hc⟩ := hr
  cases A with
  | none =>
    obtain ⟨rfl, rfl⟩ := hnil rfl
    have hrun := run_append_owned_none (P := Tryz.prog) (w := wr) base 22 ty 24 i0 4 Tryz.underlying22 hi d xs.length (ilist xs) hown
    rw [List.append_nil]
    obtain ⟨A', c', hv⟩ := (row_readsIt hown).form
    subst hv
    exact ⟨A', c', wr, hrun, hown, Below.refl base wr⟩
  | some ad =>
    have hcells : ∀ j u, (ilist l)[j]? = some u → wr.cell? (ad.add j) = some u := by
      intro j u hu
      have hj := (List.getElem?_eq_some_iff.1 hu).1
      rw [length_ilist] at hj
      obtain ⟨b, off, hA, _, hcell⟩ := hc (by omega)
      obtain rfl := Option.some.inj hA
      rw [Go.WideShapes.add_plain]
      exact hcell.list j u hu
    obtain ⟨v', w', hrun, h2, h3, _⟩ := run_append_own (P := Tryz.prog) wr base 22 ty 24 i0 _ 4 48 Tryz.underlying22 hi hz0 hz1 hz2 rfl (by decide) d xs.length (ilist xs) hown ad l.length c (ilist l) (length_ilist l) hcells (ilist_one l) (by unfold maxLen; omega) (by omega) hbase
    rw [← ilist_append, ← List.length_append] at h2
    obtain ⟨A', c', hv⟩ := (row_readsIt h2).form
    subst hv
    exact ⟨A', c', w', hrun, h2, (Below.refl base wr).grown h3 hbase (fun k hk => (World.ownsRow.lt hown k hk).1)⟩
/-- A new copy of some items. -/
theorem run_fresh8 {wr : World} {B : Nat} {v : Value} {l : List Itm} (hr : ReadsIt wr B v l) (hlen : l.length ≤ 1000000) (base : Nat) (hbase : base ≤ wr.heap.size) (ty : TypeId) :
    ∃ A c w', (Builtin.append_ #[22, 22] ty #[.slice none 0 0, v]).run Tryz.prog wr = .ok (.slice A l.length c) w' ∧ w'.ownsRow base 24 4 (.slice A l.length c) l.length (ilist l) ∧ Below base wr w' :=
  run_its8 (xs := []) (World.ownsRow_nil wr base 24 4) hr (by simp; omega) hbase ty

set_option maxRecDepth 100000 in
set_option maxHeartbeats 1000000 in
theorem refDel_any (v : Value) (l : List Itm) (k : ByteArray) (w : World) (hr : ReadsIt w w.heap.size v l) (hz : ∀ y ∈ l, y.key.size ≤ 9223372036854775807) (hk : k.size ≤ 9223372036854775807) (hl : l.length ≤ 100000) :
    Calls Tryz.prog 26 #[v, .string k] w fun e w' => ∃ v', e = .returned v' ∧ w'.ownsRow w.heap.size 24 4 v' (delL l k).length (ilist (delL l k)) ∧ Below w.heap.size w w' := by
  have hF := refFind_any v l k w hr hz hk (by omega)
  obtain ⟨A, c, rfl⟩ := hr.form
  have hlb := lb_le l k
  have hc1 : l.length ≤ c := by obtain ⟨A', c', hv, hc, _⟩ := hr; cases hv; exact hc
  have HR := Lib.hid hr
  cases hat : isAt l k
  · rw [hat] at hF
    have hd : delL l k = l := delL_none hat
    rw [hd]
    clear hr hd hat
    go_enter Tryz.func26, Tryz.ntmps26
    go_wp2_with fail
    refine hF.mono ?_
    rintro e w1 ⟨rfl, hb1⟩
    obtain ⟨A2, c2, w2, hrun, hown, hb2⟩ := run_fresh8 (HR.out.grow hb1 hb1.size) (by omega) w.heap.size hb1.size 22
    have HX := Lib.hid (And.intro hrun (And.intro hown (hb1.trans hb2)))
    clear hF hrun hown hb2 hb1
    go_wp2_with (at_builtin; (refine wpList_append_run8 w1 (by kernel_rfl) _ _ 22 22 rfl (.slice none 0 0) (.slice A l.length c) rfl rfl _ _ HX.out.1 ?_))
    go_ret
    exact ⟨_, rfl, HX.out.2.1, HX.out.2.2⟩
  · rw [hat] at hF
    have hd : delL l k = l.take (lb l k) ++ l.drop (lb l k + 1) := by unfold delL; rw [if_pos hat]
    have hlt : lb l k < l.length := (isAt_iff.1 hat).1
    rw [hd]
    have hrH := run_high A l.length c (lb l k) (by omega)
    have hrL0 := run_low A l.length c (lb l k + 1) (by omega)
    obtain ⟨i, hi⟩ : ∃ i, lb l k = i := ⟨_, rfl⟩
    rw [hi] at hF hrH hrL0 hlt ⊢
    have hrL : ∀ W, (Instr.slice 22 (.slice A l.length c) (some (.int .i64 ((i : Int) + 1))) none none).run Tryz.prog W = .ok (lowV A l.length c (i + 1)) W := fun W => by have := hrL0 W; rwa [show (((i + 1 : Nat)) : Int) = (i : Int) + 1 by omega] at this
    obtain ⟨A2, hA2⟩ : ∃ A2, lowV A l.length c (i + 1) = .slice A2 (l.length - (i + 1)) (c - (i + 1)) := ⟨_, rfl⟩
    simp only [hA2] at hrL
    have HA2 := Lib.hid hA2
    have hib : (i : Int) ≤ 100000 := by omega
    obtain ⟨N, hN⟩ : ∃ N, (l.take i ++ l.drop (i + 1)).length = N := ⟨_, rfl⟩
    rw [hN]
    have HN := Lib.hid hN
    clear hr hd hat hlb hrL0 hA2 hi hN
    go_enter Tryz.func26, Tryz.ntmps26
    go_wp2_with fail
    refine hF.mono ?_
    rintro e w1 ⟨rfl, hb1⟩
    have hb1 := hb1.drew
    have hr1 := HR.out.grow hb1 hb1.size
    obtain ⟨A3, c3, w2, hrun, hown, hb2⟩ := run_fresh8 (reads_high hr1 (k := i) (by omega)) (by simp; omega) w.heap.size hb1.size 22
    have hln : (l.take i).length = i := by simp; omega
    rw [hln] at hrun hown
    have hr2 := HR.out.below (hb1.trans hb2)
    have hrD := reads_low hr2 (k := i + 1) (by omega)
    rw [HA2.out] at hrD
    obtain ⟨A4, c4, w3, hrun3, hown3, hb3⟩ := run_its8 (by rw [hln]; exact hown) hrD (by simp; omega) (Nat.le_trans hb1.size hb2.size) 22
    rw [HN.out] at hrun3 hown3
    have HX := Lib.hid (And.intro hrun (And.intro hrun3 (And.intro hown3 ((hb1.trans hb2).trans hb3))))
    clear hF hrun hown hb2 hb1 hr1 hr2 hrD hrun3 hown3 hb3
    have hwi : IntKind.i64.wrap ((i : Int) + 1) = (i : Int) + 1 := by rw [IntKind.wrap_i64]; omega
    go_wp2_with fail
    go_region_held3 (fun _ => True) (trivial) (first
      | (refine Lib.wp_append_run w1.drew _ _ 22 22 rfl (.slice none 0 0) (.slice A i c) rfl rfl _ _ HX.out.1 ?_)
      | (refine Lib.wp_append_run w2 _ _ 22 22 rfl (.slice A3 i c3) (.slice A2 (l.length - (i + 1)) (c - (i + 1))) rfl rfl _ _ HX.out.2.1 ?_))
    go_wp2_with fail
    go_ret
    exact ⟨_, rfl, HX.out.2.2.1, HX.out.2.2.2⟩

/-- append of items in a region whose order is open. -/
theorem wp_append_its8 {K : Act → World → Prop} {o : Oper} {a : Act} {Q : Exit → Act → World → Prop} (s x : Operand) (ho : o.op = .call { callee := .builtin .append, args := #[s, x], argTypes := #[22, 22] }) (wr : World) (base : Nat) (d : Value) (xs : List Itm) (n : Nat) (hn : xs.length = n) (hs : a.eval s = d)
    (hown : wr.ownsRow base 24 4 d n (ilist xs)) (B : Nat) (v : Value) (l : List Itm) (hx : a.eval x = v) (hr : ReadsIt wr B v l) (N : Nat) (hN : (xs ++ l).length = N) (hlen : N ≤ 1000000) (hbase : base ≤ wr.heap.size)
    (h : ∀ A c w', w'.ownsRow base 24 4 (.slice A N c) N (ilist (xs ++ l)) → Below base wr w' → K (a.put o.dst (.slice A N c)) w') : o.wp Tryz.prog a wr K Q := by
  subst hn
  obtain ⟨A, c, w', hrun, hown', hb⟩ := run_its8 hown hr (by rw [← List.length_append]; omega) hbase o.type
  rw [hN] at hrun hown'
  exact Lib.wp_append_run wr s x 22 22 ho d v hs hx _ _ hrun (h A c w' hown' hb)

set_option maxRecDepth 100000 in
set_option maxHeartbeats 1000000 in
theorem refSet_any (v : Value) (l : List Itm) (x : Itm) (w : World) (hr : ReadsIt w w.heap.size v l) (hz : ∀ y ∈ l, y.key.size ≤ 9223372036854775807) (hk : x.key.size ≤ 9223372036854775807) (hl : l.length ≤ 100000) :
    Calls Tryz.prog 25 #[v, iagg x] w fun e w' => ∃ v', e = .returned v' ∧ w'.ownsRow w.heap.size 24 4 v' (setL l x).length (ilist (setL l x)) ∧ Below w.heap.size w w' := by
  have hw0 : Below w.heap.size w (w.alloc (iobj x)) := (Below.refl _ _).alloc (Nat.le_refl _) _
  have hF := refFind_any v l x.key (w.alloc (iobj x)) (hr.grow hw0 hw0.size) hz hk (by omega)
  obtain ⟨A, c, rfl⟩ := hr.form
  have hbe := behind_le l x.key
  have hc1 : l.length ≤ c := by obtain ⟨A', c', hv, hc, _⟩ := hr; cases hv; exact hc
  have hset : setL l x = l.take (lb l x.key) ++ x :: l.drop (behind l x.key) := rfl
  have hbd : behind l x.key = lb l x.key + (if isAt l x.key = true then 1 else 0) := rfl
  have hrH := run_high A l.length c (lb l x.key) (by omega)
  have hrL1 := run_low A l.length c (lb l x.key) (by omega)
  have hrL2 := run_low A l.length c (behind l x.key) hbe.1
  have hrB := reads_low hr hbe.1
  have hrC := reads_low hr (k := lb l x.key) (by omega)
  have hrT := reads_high hr (k := lb l x.key) (by omega)
  rw [hset]
  obtain ⟨i, hi⟩ : ∃ i, lb l x.key = i := ⟨_, rfl⟩
  obtain ⟨k, hk2⟩ : ∃ k, behind l x.key = k := ⟨_, rfl⟩
  rw [hi] at hbd hF hbe hrH hrL1 hrT hrC
  rw [hk2] at hbd hbe hrL2 hrB
  rw [hi, hk2]
  obtain ⟨A1, hA1⟩ : ∃ A1, lowV A l.length c i = .slice A1 (l.length - i) (c - i) := ⟨_, rfl⟩
  obtain ⟨A2, hA2⟩ : ∃ A2, lowV A l.length c k = .slice A2 (l.length - k) (c - k) := ⟨_, rfl⟩
  rw [hA2] at hrB
  rw [hA1] at hrC
  simp only [hA1] at hrL1
  simp only [hA2] at hrL2
  have hln : (l.take i).length = i := by simp; omega
  obtain ⟨N, hN⟩ : ∃ N, (l.take i ++ x :: l.drop k).length = N := ⟨_, rfl⟩
  rw [hN]
  have hNl : N ≤ 100001 := by rw [← hN]; simp; omega
  have HR := Lib.hid (And.intro hrT (And.intro hrB (And.intro hrC (And.intro hln hN))))
  have HW0 := Lib.hid hw0
  clear hr hset hw0 hrT hrB hrC hA1 hA2 hi hk2 hln hN
  cases hat : isAt l x.key
  · rw [hat] at hbd hF
    simp at hbd
    have hbd' := hbd.symm
    subst hbd'
    clear hat hrL2
    go_enter Tryz.func25, Tryz.ntmps25
    go_wp2_with fail
    refine hF.mono ?_
    rintro e w1 ⟨rfl, hb1⟩
    obtain ⟨c0, c1, c2, c3⟩ := box_cells (w := w) (w1 := w1) x (by simpa using hb1)
    have hbw := HW0.out.trans (hb1.mono HW0.out.size)
    have HB1 := Lib.hid hbw
    have hgs : w.heap.size + 1 ≤ w1.heap.size := by have := hb1.size; simpa using this
    have hbx : ∀ W, Below w1.heap.size w1 W → W.cell? ⟨w.heap.size, 0, none⟩ = some (.string x.key) ∧ W.cell? ⟨w.heap.size, 1, none⟩ = some (.string x.val) ∧ W.cell? ⟨w.heap.size, 2, none⟩ = some (.int .i64 x.over) ∧ W.cell? ⟨w.heap.size, 3, none⟩ = some (.int .i64 x.size) := fun W hb =>
      ⟨(hb.cell (p := ⟨w.heap.size, 0, none⟩) hgs).trans c0, (hb.cell (p := ⟨w.heap.size, 1, none⟩) hgs).trans c1, (hb.cell (p := ⟨w.heap.size, 2, none⟩) hgs).trans c2, (hb.cell (p := ⟨w.heap.size, 3, none⟩) hgs).trans c3⟩
    have HS := Lib.hid hbx
    have eM : (l.take i ++ [x]).length = i + 1 := by rw [List.length_append, HR.out.2.2.2.1]; rfl
    have eN : ((l.take i ++ [x]) ++ l.drop i).length = N := by rw [← HR.out.2.2.2.2]; simp
    have eL : (l.take i ++ [x]) ++ l.drop i = l.take i ++ x :: l.drop i := by simp
    have HT := Lib.hid (fun W (hb : Below w1.heap.size w1 W) => HR.out.1.below (hbw.trans (hb.mono hbw.size)))
    have HD := Lib.hid (fun W (hb : Below w1.heap.size w1 W) => HR.out.2.2.1.below (hbw.trans (hb.mono hbw.size)))
    have HE := Lib.hid (And.intro eM (And.intro eN eL))
    have HM := Lib.hid (And.intro (show i + 1 ≤ 1000000 by omega) (And.intro (show N ≤ 1000000 by omega) (show i ≤ 1000000 by omega)))
    have hic : i ≤ c := by omega
    have hil2 : i ≤ l.length := Nat.le_trans hbe.2 hbe.1
    clear hNl hF hb1 hbw hbx eM eN eL hgs hbe hl hc1 hz hk hbd
    go_wp2_with fail
    go_region_held3 (fun w' => w'.cell? ⟨w.heap.size, 0, none⟩ = some (.string x.key) ∧ w'.cell? ⟨w.heap.size, 1, none⟩ = some (.string x.val) ∧ w'.cell? ⟨w.heap.size, 2, none⟩ = some (.int .i64 x.over) ∧ w'.cell? ⟨w.heap.size, 3, none⟩ = some (.int .i64 x.size)) (exact HS.out _ (by first | assumption | exact (Below.refl _ _).drew | exact ((Below.refl _ _).drew).alloc (Nat.le_refl _) _ | exact ((Below.refl _ _).alloc (Nat.le_refl _) _).drew | exact Below.alloc (by assumption) (Below.size (w := w1) (by assumption)) _)) (first
      | (refine wp_append_its8 _ _ rfl _ _ (.slice none 0 0) [] 0 rfl rfl (World.ownsRow_nil _ _ _ _) _ (.slice A i c) (l.take i) rfl (HT.out _ (by first | assumption | exact (Below.refl _ _).drew | exact ((Below.refl _ _).drew).alloc (Nat.le_refl _) _ | exact ((Below.refl _ _).alloc (Nat.le_refl _) _).drew | exact Below.alloc (by assumption) (Below.size (w := w1) (by assumption)) _)) i HR.out.2.2.2.1 HM.out.2.2 (Nat.le_refl _) ?_; intro A3 c3' w2 hown2 hb2; have hq2 : Below w1.heap.size w1 w2 := Below.trans (by first | assumption | exact (Below.refl _ _).drew | exact ((Below.refl _ _).drew).alloc (Nat.le_refl _) _ | exact ((Below.refl _ _).alloc (Nat.le_refl _) _).drew | exact Below.alloc (by assumption) (Below.size (w := w1) (by assumption)) _) (hb2.mono (by first | exact Nat.le_refl _ | (show w1.heap.size ≤ (w1.alloc (iobj x)).heap.size; rw [World.size_alloc]; exact Nat.le_succ _))))
      | (refine wp_append_its8 _ _ rfl _ _ (.slice A3 i c3') (l.take i) i HR.out.2.2.2.1 rfl (World.ownsRow.alloc hown2 _) _ (.slice (some ⟨w2.heap.size, 0, none⟩) 1 1) [x] rfl (ReadsIt.built w2 [x] (by unfold maxLen; simp)) (i + 1) HE.out.1 HM.out.1 (by have := hb2.size; rw [World.size_alloc]; omega) ?_; intro A4 c4' w3 hown3 hb3; have hz3 : w1.drew.heap.size ≤ w3.heap.size := Nat.le_trans (Nat.le_trans hb2.size (Nat.le_of_lt (Nat.lt_of_lt_of_eq (Nat.lt_succ_self _) (World.size_alloc w2 _).symm))) hb3.size; have hq3 : Below w1.heap.size w1 w3 := Below.trans (by first | assumption | exact (Below.refl _ _).drew | exact ((Below.refl _ _).drew).alloc (Nat.le_refl _) _ | exact ((Below.refl _ _).alloc (Nat.le_refl _) _).drew | exact Below.alloc (by assumption) (Below.size (w := w1) (by assumption)) _) (hb3.mono (by first | exact Nat.le_refl _ | (show w1.heap.size ≤ (w1.alloc (iobj x)).heap.size; rw [World.size_alloc]; exact Nat.le_succ _))))
      | (refine wp_append_its8 _ _ rfl _ _ (.slice A3 i c3') (l.take i) i HR.out.2.2.2.1 rfl hown2 _ (.slice (some ⟨w1.heap.size, 0, none⟩) 1 1) [x] rfl ((ReadsIt.built w1 [x] (by unfold maxLen; simp)).below (((Below.refl (w1.heap.size + 1) _).drew).trans (hb2.mono (by show w1.heap.size + 1 ≤ (w1.alloc (iobj x)).heap.size; rw [World.size_alloc]; exact Nat.le_refl _)))) (i + 1) HE.out.1 HM.out.1 hb2.size ?_; intro A4 c4' w3 hown3 hb3; have hz3 := Nat.le_trans hb2.size hb3.size; have hq3 : Below w1.heap.size w1 w3 := Below.trans (by first | assumption | exact (Below.refl _ _).drew | exact ((Below.refl _ _).drew).alloc (Nat.le_refl _) _ | exact ((Below.refl _ _).alloc (Nat.le_refl _) _).drew | exact Below.alloc (by assumption) (Below.size (w := w1) (by assumption)) _) (hb3.mono (by first | exact Nat.le_refl _ | (show w1.heap.size ≤ (w1.alloc (iobj x)).heap.size; rw [World.size_alloc]; exact Nat.le_succ _))))
      | (refine wp_append_its8 _ _ rfl _ _ (.slice A4 (i + 1) c4') (l.take i ++ [x]) (i + 1) HE.out.1 rfl hown3 _ (.slice A1 (l.length - i) (c - i)) (l.drop i) rfl (HD.out _ hq3) N HE.out.2.1 HM.out.2.1 hz3 ?_; intro A5 c5' w4 hown4 hb4; have hq4 : Below w1.heap.size w1 w4 := hq3.trans (hb4.mono (by first | exact Nat.le_refl _ | (show w1.heap.size ≤ (w1.alloc (iobj x)).heap.size; rw [World.size_alloc]; exact Nat.le_succ _)))))
    all_goals
      go_wp2_with fail
      go_ret
      refine ⟨_, rfl, ?_, HB1.out.trans (hq4.mono HB1.out.size)⟩
      have h := row_lower hown4 (base' := w.heap.size) (Nat.le_trans HB1.out.size (by first | exact Nat.le_refl _ | (show w1.heap.size ≤ (w1.alloc (iobj x)).heap.size; rw [World.size_alloc]; exact Nat.le_succ _)))
      rw [HE.out.2.2] at h
      exact h
  · rw [hat] at hbd hF
    simp at hbd
    subst hbd
    have hrL3 : ∀ W, (Instr.slice 22 (.slice A l.length c) (some (.int .i64 ((i : Int) + 1))) none none).run Tryz.prog W = .ok (.slice A2 (l.length - (i + 1)) (c - (i + 1))) W := fun W => by have := hrL2 W; rwa [show (((i + 1 : Nat)) : Int) = (i : Int) + 1 by omega] at this
    clear hrL2
    have hib1 : (i : Int) ≤ 99999 := by omega
    have hwi : IntKind.i64.wrap ((i : Int) + 1) = (i : Int) + 1 := by rw [IntKind.wrap_i64]; omega
    clear hat
    go_enter Tryz.func25, Tryz.ntmps25
    go_wp2_with fail
    refine hF.mono ?_
    rintro e w1 ⟨rfl, hb1⟩
    obtain ⟨c0, c1, c2, c3⟩ := box_cells (w := w) (w1 := w1) x (by simpa using hb1)
    have hbw := HW0.out.trans (hb1.mono HW0.out.size)
    have HB1 := Lib.hid hbw
    have hgs : w.heap.size + 1 ≤ w1.heap.size := by have := hb1.size; simpa using this
    have hbx : ∀ W, Below w1.heap.size w1 W → W.cell? ⟨w.heap.size, 0, none⟩ = some (.string x.key) ∧ W.cell? ⟨w.heap.size, 1, none⟩ = some (.string x.val) ∧ W.cell? ⟨w.heap.size, 2, none⟩ = some (.int .i64 x.over) ∧ W.cell? ⟨w.heap.size, 3, none⟩ = some (.int .i64 x.size) := fun W hb =>
      ⟨(hb.cell (p := ⟨w.heap.size, 0, none⟩) hgs).trans c0, (hb.cell (p := ⟨w.heap.size, 1, none⟩) hgs).trans c1, (hb.cell (p := ⟨w.heap.size, 2, none⟩) hgs).trans c2, (hb.cell (p := ⟨w.heap.size, 3, none⟩) hgs).trans c3⟩
    have HS := Lib.hid hbx
    have eM : (l.take i ++ [x]).length = i + 1 := by rw [List.length_append, HR.out.2.2.2.1]; rfl
    have eN : ((l.take i ++ [x]) ++ l.drop (i + 1)).length = N := by rw [← HR.out.2.2.2.2]; simp
    have eL : (l.take i ++ [x]) ++ l.drop (i + 1) = l.take i ++ x :: l.drop (i + 1) := by simp
    have HT := Lib.hid (fun W (hb : Below w1.heap.size w1 W) => HR.out.1.below (hbw.trans (hb.mono hbw.size)))
    have HD := Lib.hid (fun W (hb : Below w1.heap.size w1 W) => HR.out.2.1.below (hbw.trans (hb.mono hbw.size)))
    have HE := Lib.hid (And.intro eM (And.intro eN eL))
    have HM := Lib.hid (And.intro (show i + 1 ≤ 1000000 by omega) (And.intro (show N ≤ 1000000 by omega) (show i ≤ 1000000 by omega)))
    have hic : i ≤ c := by omega
    have hil2 : i < l.length := hbe.1
    clear hNl hF hb1 hbw hbx eM eN eL hgs hbe hl hc1 hz hk
    go_wp2_with fail
    go_region_held3 (fun w' => w'.cell? ⟨w.heap.size, 0, none⟩ = some (.string x.key) ∧ w'.cell? ⟨w.heap.size, 1, none⟩ = some (.string x.val) ∧ w'.cell? ⟨w.heap.size, 2, none⟩ = some (.int .i64 x.over) ∧ w'.cell? ⟨w.heap.size, 3, none⟩ = some (.int .i64 x.size)) (exact HS.out _ (by first | assumption | exact (Below.refl _ _).drew | exact ((Below.refl _ _).drew).alloc (Nat.le_refl _) _ | exact ((Below.refl _ _).alloc (Nat.le_refl _) _).drew | exact Below.alloc (by assumption) (Below.size (w := w1) (by assumption)) _)) (first
      | (refine wp_append_its8 _ _ rfl _ _ (.slice none 0 0) [] 0 rfl rfl (World.ownsRow_nil _ _ _ _) _ (.slice A i c) (l.take i) rfl (HT.out _ (by first | assumption | exact (Below.refl _ _).drew | exact ((Below.refl _ _).drew).alloc (Nat.le_refl _) _ | exact ((Below.refl _ _).alloc (Nat.le_refl _) _).drew | exact Below.alloc (by assumption) (Below.size (w := w1) (by assumption)) _)) i HR.out.2.2.2.1 HM.out.2.2 (Nat.le_refl _) ?_; intro A3 c3' w2 hown2 hb2; have hq2 : Below w1.heap.size w1 w2 := Below.trans (by first | assumption | exact (Below.refl _ _).drew | exact ((Below.refl _ _).drew).alloc (Nat.le_refl _) _ | exact ((Below.refl _ _).alloc (Nat.le_refl _) _).drew | exact Below.alloc (by assumption) (Below.size (w := w1) (by assumption)) _) (hb2.mono (by first | exact Nat.le_refl _ | (show w1.heap.size ≤ (w1.alloc (iobj x)).heap.size; rw [World.size_alloc]; exact Nat.le_succ _))))
      | (refine wp_append_its8 _ _ rfl _ _ (.slice A3 i c3') (l.take i) i HR.out.2.2.2.1 rfl (World.ownsRow.alloc hown2 _) _ (.slice (some ⟨w2.heap.size, 0, none⟩) 1 1) [x] rfl (ReadsIt.built w2 [x] (by unfold maxLen; simp)) (i + 1) HE.out.1 HM.out.1 (by have := hb2.size; rw [World.size_alloc]; omega) ?_; intro A4 c4' w3 hown3 hb3; have hz3 : w1.drew.heap.size ≤ w3.heap.size := Nat.le_trans (Nat.le_trans hb2.size (Nat.le_of_lt (Nat.lt_of_lt_of_eq (Nat.lt_succ_self _) (World.size_alloc w2 _).symm))) hb3.size; have hq3 : Below w1.heap.size w1 w3 := Below.trans (by first | assumption | exact (Below.refl _ _).drew | exact ((Below.refl _ _).drew).alloc (Nat.le_refl _) _ | exact ((Below.refl _ _).alloc (Nat.le_refl _) _).drew | exact Below.alloc (by assumption) (Below.size (w := w1) (by assumption)) _) (hb3.mono (by first | exact Nat.le_refl _ | (show w1.heap.size ≤ (w1.alloc (iobj x)).heap.size; rw [World.size_alloc]; exact Nat.le_succ _))))
      | (refine wp_append_its8 _ _ rfl _ _ (.slice A3 i c3') (l.take i) i HR.out.2.2.2.1 rfl hown2 _ (.slice (some ⟨w1.heap.size, 0, none⟩) 1 1) [x] rfl ((ReadsIt.built w1 [x] (by unfold maxLen; simp)).below (((Below.refl (w1.heap.size + 1) _).drew).trans (hb2.mono (by show w1.heap.size + 1 ≤ (w1.alloc (iobj x)).heap.size; rw [World.size_alloc]; exact Nat.le_refl _)))) (i + 1) HE.out.1 HM.out.1 hb2.size ?_; intro A4 c4' w3 hown3 hb3; have hz3 := Nat.le_trans hb2.size hb3.size; have hq3 : Below w1.heap.size w1 w3 := Below.trans (by first | assumption | exact (Below.refl _ _).drew | exact ((Below.refl _ _).drew).alloc (Nat.le_refl _) _ | exact ((Below.refl _ _).alloc (Nat.le_refl _) _).drew | exact Below.alloc (by assumption) (Below.size (w := w1) (by assumption)) _) (hb3.mono (by first | exact Nat.le_refl _ | (show w1.heap.size ≤ (w1.alloc (iobj x)).heap.size; rw [World.size_alloc]; exact Nat.le_succ _))))
      | (refine wp_append_its8 _ _ rfl _ _ (.slice A4 (i + 1) c4') (l.take i ++ [x]) (i + 1) HE.out.1 rfl hown3 _ (.slice A2 (l.length - (i + 1)) (c - (i + 1))) (l.drop (i + 1)) rfl (HD.out _ hq3) N HE.out.2.1 HM.out.2.1 hz3 ?_; intro A5 c5' w4 hown4 hb4; have hq4 : Below w1.heap.size w1 w4 := hq3.trans (hb4.mono (by first | exact Nat.le_refl _ | (show w1.heap.size ≤ (w1.alloc (iobj x)).heap.size; rw [World.size_alloc]; exact Nat.le_succ _)))))
    all_goals
      go_wp2_with fail
      go_ret
      refine ⟨_, rfl, ?_, HB1.out.trans (hq4.mono HB1.out.size)⟩
      have h := row_lower hown4 (base' := w.heap.size) (Nat.le_trans HB1.out.size (by first | exact Nat.le_refl _ | (show w1.heap.size ≤ (w1.alloc (iobj x)).heap.size; rw [World.size_alloc]; exact Nat.le_succ _)))
      rw [HE.out.2.2] at h
      exact h
end Go.Proofs.YtpfifmjcmpankaaGreat
