/-
  Numbers out of the bodies of pages: the document's own Unchain. Bodies of pages out of numbers: the document's own Chain. The bodies that the document's own Chain tells are those of sixty numbers each.
-/
import Derived.Test.YtlalhinodmmgfaaGreatMg14
import Derived.Test.YtlalhinodmmgfaaGreatMg16
namespace Go.Proofs.YtlalhinodmmgfaaGreat
open Go.RowKit

set_option maxRecDepth 100000 in
set_option maxHeartbeats 2000000 in
theorem refUnchain_any {w : World} {v : Value} {B : List ByteArray} (h : Reads1 w w.heap.size v (B.map .string)) (hl : B.length ≤ 100) (hs : ∀ s ∈ B, s.size ≤ 6000) :
    Calls Tryz.prog 11 #[v] w fun e w' => (((∀ s ∈ B, s.size % 4 = 0) ∧ ∃ v', e = .returned (.tuple #[v', .int .i64 0]) ∧ w'.ownsRow w.heap.size 3 1 v' (unch B).length (cellsI (unch B))) ∨ ((¬ ∀ s ∈ B, s.size % 4 = 0) ∧ e = .returned (.tuple #[.slice none 0 0, .int .i64 4]))) ∧ Below w.heap.size w w' := by
  obtain ⟨A, c, rfl, hc⟩ := h
  simp only [List.length_map] at hc ⊢
  obtain ⟨n, hn⟩ : ∃ n, B.length = n := ⟨_, rfl⟩
  rw [hn] at hl hc ⊢
  have HL := Lib.hid (And.intro hc (And.intro hn hs))
  clear hc hn hs
  go_enter Tryz.func11, Tryz.ntmps11
  go_wp2_with fail
  go_loopg [4, 5] n (fun g ov iv wr => ∃ j : Nat, iv = .int .i64 j ∧ j + g = n ∧ (∀ s ∈ B.take j, s.size % 4 = 0) ∧ wr.ownsRow w.heap.size 3 1 ov (unch (B.take j)).length (cellsI (unch (B.take j))) ∧ Below w.heap.size w wr)
  case atStart => exact ⟨0, rfl, by omega, by simp, World.ownsRow_nil _ _ _ _, Below.refl _ _⟩
  case round =>
    obtain ⟨j, rfl, hjg, hall, hrow, hbl⟩ := hrel
    obtain ⟨hc, hn, hs⟩ := HL.out
    by_cases hlt : j < n
    · obtain ⟨b, off, rfl, hbb, hcell⟩ := hc (by omega)
      have hjl : j < B.length := by omega
      have hq : wr.cell? ⟨b, off + j, none⟩ = some (.string B[j]) := (hbl.cell (p := ⟨b, off + j, none⟩) hbb).trans (hcell j _ (by simp [hjl]))
      have hcc : ∀ wx, Below w.heap.size w wx → wx.cell? ⟨b, off + j, none⟩ = some (.string B[j]) := fun wx hb => (hb.cell (p := ⟨b, off + j, none⟩) hbb).trans (hcell j _ (by simp [hjl]))
      have htk : B.take (j + 1) = B.take j ++ [B[j]] := List.take_succ_eq_append_getElem hjl
      have hsz : B[j].size ≤ 6000 := hs _ (List.getElem_mem hjl)
      have hmem : B[j] ∈ B := List.getElem_mem hjl
      have hfew := unch_few (B.take j) (fun s hm => hs s (List.mem_of_mem_take hm))
      rw [List.length_take, Nat.min_eq_left (by omega)] at hfew
      generalize B[j] = s at *
      have k1 : (j : Int) < n := by omega
      have k0 : (0 : Int) ≤ j := by omega
      obtain ⟨z, hz⟩ : ∃ z, s.size = z := ⟨_, rfl⟩
      have hjI := Lib.hid hjg
      by_cases h4 : z % 4 = 0
      · have h4b : (((z : Int) % 4) != 0) = false := by simp; omega
        have HR := Lib.hid (And.intro hall (And.intro htk (And.intro hfew (And.intro hsz (And.intro hz h4)))))
        have HW := Lib.hid (And.intro hrow hbl)
        have HC := Lib.hid hcc
        clear hc hn hs hbb hcell hall htk hfew hsz hmem hrow hbl hjg hcc
        go_wp2_with fail
        obtain ⟨wo, rfl⟩ : ∃ wo : World, wo = wr := ⟨_, rfl⟩
        obtain ⟨K, hK⟩ : ∃ K, z / 4 = K := ⟨_, rfl⟩
        have hz4 : z = 4 * K := by omega
        have hKs : K ≤ 1500 := by have := HR.out.2.2.2.1; have := HR.out.2.2.2.2.1; omega
        go_loopg [4, 6] K (fun g ov av wx => ∃ k y : Nat, av = .int .i64 y ∧ y = 4 * k ∧ k + g = K ∧ wx.ownsRow w.heap.size 3 1 ov ((unch (B.take j)).length + k) (cellsI (unch (B.take j) ++ numsTo s k)) ∧ Below w.heap.size w wx)
        case atStart => exact ⟨0, 0, rfl, rfl, by omega, by simpa [numsTo] using HW.out.1, HW.out.2⟩
        case round =>
          obtain ⟨k, y, rfl, hy, hkg, hrow, hbl⟩ := hrel
          have hzs := HR.out.2.2.2.2.1
          have hq2 := HC.out wr hbl
          by_cases hkK : k < K
          · have y1 : (y : Int) < (s.size : Int) := by omega
            have y0 : (0 : Int) ≤ y := by omega
            have y2 : (y : Int) ≤ 6000 := by omega
            have hun := refUnfix_ok s y 4 wr (by omega) (by omega) (by omega) (by omega)
            have hnu : ((unleb ((s.data.toList.drop y).take 4) : Nat) : Int) = numAt s k := by rw [hy]; rfl
            have hns := numsTo_succ s k
            rw [hnu] at hun
            obtain ⟨pl, hpl⟩ : ∃ n, (unch (B.take j)).length = n := ⟨_, rfl⟩
            have hpl2 : pl ≤ 150000 := by rw [← hpl]; have := HR.out.2.2.1; omega
            rw [hpl] at hrow
            generalize numAt s k = x at *
            obtain ⟨i0, hi0, hzz0, hzz1, hzz2⟩ := info_parts Tryz.infoInt
            have hra := World.ownsRow.alloc (row_base0 hrow) (.cells #[.int .i64 x] 3)
            have hgr := fun g hg => (hrow.lt g hg).1
            have HW2 := Lib.hid (And.intro hgr (And.intro hbl (And.intro hy (And.intro hkg (And.intro hns hpl)))))
            clear hrow hbl hy hkg hzs hnu hz4 hK hns hgr hpl
            go_wp2_with fail
            refine hun.mono ?_
            rintro e w1 ⟨rfl, rfl⟩
            clear hun
            go_wp2_with (at_builtin; refine wpList_append_keeps rfl _ _ 22 3 i0 (.int .i64 0) 1 8 Tryz.underlying22 hi0 hzz0 hzz1 hzz2 rfl (by decide) rfl _ u4 (pl + k) _ rfl hra ⟨wr.heap.size, 0, none⟩ 1 1 rfl [.int .i64 x] rfl (cell_one_new _ _ _) (by intro u hu; simp at hu; subst hu; rfl) (by omega) (by unfold maxLen; omega) (by omega) ?_; intro v' w' hown' hgn)
            go_roundg (K - (k + 1))
            case measure => have := HW2.out.2.2.2.1; omega
            case rel =>
              obtain ⟨hgr, hb, hy, hkg, hns, hpl⟩ := HW2.out
              have hal : Below wr.heap.size wr (wr.alloc (.cells #[.int .i64 x] 3)) := (Below.refl _ _).alloc (Nat.le_refl _) _
              obtain ⟨hb2, hg2⟩ := hgn.below (base := w.heap.size) (Nat.le_trans hb.size hal.size) hgr
              refine ⟨k + 1, y + 4, by go_num, by omega, by omega, ?_, (hb.trans (hal.mono hb.size)).trans hb2⟩
              have h5 := row_raise hown' hg2
              rw [hns, hpl, ← Nat.add_assoc, ← List.append_assoc, cellsI_append _ [x]]
              exact h5
          · obtain rfl : k = K := by omega
            have hye : (y : Int) = (s.size : Int) := by omega
            have HW2 := Lib.hid (And.intro hrow hbl)
            clear hrow hbl hy hkg
            go_wp2_with fail
            go_roundg (n - (j + 1))
            case measure => have := hjI.out; omega
            case rel =>
              obtain ⟨hall, htk, hfew, hsz, hz, h4⟩ := HR.out
              refine ⟨j + 1, by go_num, by omega, ?_, ?_, HW2.out.2⟩
              · intro s' hs'
                rw [htk] at hs'
                rcases List.mem_append.1 hs' with h | h
                · exact hall s' h
                · obtain rfl : s' = s := by simpa using h
                  rw [hz]; exact h4
              · rw [htk, unch_snoc, List.length_append, length_numsTo, hz, hK]
                exact HW2.out.1
      · have h4b : (((z : Int) % 4) != 0) = true := by simp; omega
        have hno : ¬ ∀ s ∈ B, s.size % 4 = 0 := fun hh => h4 (by rw [← hz]; exact hh s hmem)
        have HR := Lib.hid (And.intro hno hbl)
        clear hc hn hs hbb hcell hall htk hfew hsz hmem hrow hbl hjg hno hcc
        go_wp2_with fail
        go_ret2
        exact ⟨.inr ⟨HR.out.1, rfl⟩, HR.out.2⟩
    · obtain rfl : j = n := by omega
      have HR := Lib.hid (And.intro hall (And.intro hrow (And.intro hbl hn)))
      clear hc hn hs hall hrow hbl
      go_wp2_with fail
      go_ret2
      obtain ⟨h1, h2, h3, h4⟩ := HR.out
      rw [← h4, List.take_length] at h1 h2
      exact ⟨.inl ⟨h1, _, rfl, h2⟩, h3⟩
end Go.Proofs.YtlalhinodmmgfaaGreat

namespace Go.Proofs.YtlalhinodmmgfaaGreat
open Go.RowKit

theorem Tryz.infoStr3 : (Tryz.prog.info? 9).map (fun i => (i.zero, i.size, i.bytes)) = some (some (.string ⟨#[]⟩), 1, 16) := by kernel_rfl

/-- v is a []string of the call's own, from block base on, that holds the texts l. -/
def TxRow (w : World) (base : Nat) (v : Value) (l : List ByteArray) : Prop := w.ownsRow base 9 1 v l.length (l.map Value.string)

/-- append(l, x) of one's own []string. -/
theorem append_txt {ops : Array Oper} {rest : List Oper} {o : Oper} {a : Act} {Q : Exit → Act → World → Prop} (hgd : o.guard = none) (s x : Operand)
    (ho : o.op = .call { callee := .builtin .append, args := #[s, x], argTypes := #[23, 23] })
    (base : Nat) (wr : World) (bv : Value) (m : List ByteArray) (hs : a.eval s = bv) (hrow : TxRow wr base bv m) (y : ByteArray) (hx : a.eval x = .slice (some ⟨wr.heap.size, 0, none⟩) 1 1)
    (hlen : m.length ≤ 1000000) (hbase : base ≤ wr.heap.size)
    (h : ∀ v' w', TxRow w' base v' (m ++ [y]) → Below base wr w' → wpList Tryz.prog ops Q rest (a.put o.dst v') w') : wpList Tryz.prog ops Q (o :: rest) a (wr.alloc (.cells #[.string y] 9)) := by
  obtain ⟨i0, hi, hz0, hz1, hz2⟩ := info_parts Tryz.infoStr3
  have hra : TxRow (wr.alloc (.cells #[.string y] 9)) base bv m := World.ownsRow.alloc hrow _
  refine wpList_append_own _ hgd s x 23 ho base 9 i0 (.string ⟨#[]⟩) 1 16 Tryz.underlying23 hi hz0 hz1 hz2 rfl (by decide) _ _ _ hs hra ⟨wr.heap.size, 0, none⟩ 1 1 [.string y] hx rfl
    (cell_one_new _ _ _) (by intro u hu; simp at hu; subst hu; rfl) (by unfold maxLen; omega) (by omega) (by simp; omega) ?_
  intro v' w' h1 h2 _
  refine h v' w' ?_ (((Below.refl base wr).alloc hbase _).trans ((Below.refl base _).grown h2 (by simp; omega) (fun k hk => (World.ownsRow.lt hra k hk).1)))
  unfold TxRow
  rw [List.length_append, List.map_append]
  exact h1

/-- A number that a body can hold, and its four bytes. -/
def fits (x : Int) : Prop := 0 ≤ x ∧ x < 4294967296
instance (x : Int) : Decidable (fits x) := by unfold fits; exact inferInstance
def four (x : Int) : ByteArray := ⟨(leb 4 x.toNat).toArray⟩
theorem four_size (x : Int) : (four x).size = 4 := by unfold four; show (leb 4 x.toNat).toArray.size = 4; rw [List.size_toArray]; exact leb_length 4 _
theorem fixB_four {x : Int} (h : fits x) : (⟨(fixB x 4).toArray⟩ : ByteArray) = four x ∧ fixE x 4 = 0 := by
  unfold fits at h
  have h4 : (1 : Int) ≤ 4 ∧ (4 : Int) ≤ 7 ∧ 0 ≤ x ∧ x < 2 ^ (8 * (4 : Int).toNat) := ⟨by omega, by omega, h.1, by show x < 2 ^ 32; omega⟩
  unfold fixB fixE
  rw [if_pos h4, if_pos h4]
  exact ⟨rfl, rfl⟩
theorem fixE_four {x : Int} (h : ¬ fits x) : fixE x 4 = 1 := by
  unfold fixE
  rw [if_neg]
  intro hh
  exact h ⟨hh.2.2.1, by have := hh.2.2.2; change x < 2 ^ 32 at this; omega⟩

/-- Where the document's own Chain stands behind i of n numbers: the bodies that are whole, and the one that is begun. -/
def chStep (n : Nat) (st : List ByteArray × ByteArray) (i : Nat) (x : Int) : List ByteArray × ByteArray :=
  if (st.2 ++ four x).size = 240 ∨ i + 1 = n then (st.1 ++ [st.2 ++ four x], ⟨#[]⟩) else (st.1, st.2 ++ four x)
def chTo (l : List Int) : Nat → List ByteArray × ByteArray
  | 0 => ([], ⟨#[]⟩)
  | i + 1 => chStep l.length (chTo l i) i (l.getD i 0)
theorem chTo_few (l : List Int) : ∀ i, (chTo l i).1.length ≤ i ∧ (chTo l i).2.size ≤ 4 * i
  | 0 => ⟨Nat.le_refl _, Nat.zero_le _⟩
  | i + 1 => by
    obtain ⟨h1, h2⟩ := chTo_few l i
    unfold chTo chStep
    split
    · refine ⟨by simp; exact h1, Nat.zero_le _⟩
    · refine ⟨by show (chTo l i).1.length ≤ i + 1; omega, ?_⟩
      show ((chTo l i).2 ++ four _).size ≤ _
      rw [ByteArray.size_append, four_size]
      omega

set_option maxRecDepth 100000 in
set_option maxHeartbeats 2000000 in
theorem refChain_any {w : World} {v : Value} {l : List Int} (h : Reads1 w w.heap.size v (l.map (.int .i64))) (hl : l.length ≤ 100000) (hi : ∀ x ∈ l, IsInt x) :
    Calls Tryz.prog 9 #[v] w fun e w' => (((∀ x ∈ l, fits x) ∧ ∃ v', e = .returned (.tuple #[v', .int .i64 0]) ∧ TxRow w' w.heap.size v' (chTo l l.length).1) ∨ ((¬ ∀ x ∈ l, fits x) ∧ e = .returned (.tuple #[.slice none 0 0, .int .i64 1]))) ∧ Below w.heap.size w w' := by
  obtain ⟨A, c, rfl, hc⟩ := h
  simp only [List.length_map] at hc ⊢
  obtain ⟨n, hn⟩ : ∃ n, l.length = n := ⟨_, rfl⟩
  rw [hn] at hl hc ⊢
  have HL := Lib.hid (And.intro hc (And.intro hn hi))
  clear hc hn hi
  go_enter Tryz.func9, Tryz.ntmps9
  go_wp2_with fail
  go_loopg [4, 5, 6] n (fun g ov sv iv wr => ∃ i : Nat, iv = .int .i64 i ∧ i + g = n ∧ sv = .string (chTo l i).2 ∧ (∀ x ∈ l.take i, fits x) ∧ TxRow wr w.heap.size ov (chTo l i).1 ∧ Below w.heap.size w wr)
  case atStart => exact ⟨0, rfl, by omega, rfl, by simp, World.ownsRow_nil _ _ _ _, Below.refl _ _⟩
  case round =>
    obtain ⟨i, rfl, hig, rfl, hall, hrow, hbl⟩ := hrel
    obtain ⟨hc, hn, hi⟩ := HL.out
    by_cases hlt : i < n
    · obtain ⟨b, off, rfl, hbb, hcell⟩ := hc (by omega)
      have hil : i < l.length := by omega
      have hq : wr.cell? ⟨b, off + i, none⟩ = some (.int .i64 l[i]) := (hbl.cell (p := ⟨b, off + i, none⟩) hbb).trans (hcell i _ (by simp [hil]))
      have htk : l.take (i + 1) = l.take i ++ [l[i]] := List.take_succ_eq_append_getElem hil
      have hmem : l[i] ∈ l := List.getElem_mem hil
      have hx := hi _ hmem
      have hnext : chTo l (i + 1) = chStep n (chTo l i) i l[i] := by
        show chStep l.length (chTo l i) i (l.getD i 0) = _
        rw [hn, List.getD, List.getElem?_eq_getElem hil]
        rfl
      generalize l[i] = x at *
      have hfx := refFix_any x 4 wr hx.2
      obtain ⟨hf1, hf2⟩ := chTo_few l i
      have k1 : (i : Int) < n := by omega
      have k0 : (0 : Int) ≤ i := by omega
      have hiI := Lib.hid hig
      generalize hst : chTo l i = st at *
      obtain ⟨out, s⟩ := st
      simp only at hf1 hf2 hrow hnext ⊢
      have HB := Lib.hid hbl
      by_cases hfit : fits x
      · rw [(fixB_four hfit).1, (fixB_four hfit).2] at hfx
        have HR := Lib.hid (And.intro hall (And.intro htk (And.intro hrow (And.intro hnext hfit))))
        have hs4 := four_size x
        obtain ⟨y, hy⟩ : ∃ y, four x = y := ⟨_, rfl⟩
        have HY := Lib.hid hy
        rw [hy] at hs4 hfx
        clear hc hn hi hbb hcell hall htk hmem hrow hbl hig hnext hx hst hfit hy
        go_wp2_with fail
        refine hfx.mono ?_
        rintro e w1 ⟨rfl, hb1⟩
        have hrow1 : TxRow w1 w.heap.size u4 out := row_kept (F := []) HR.out.2.2.1 (Kept.of_below hb1) (fun g _ hF => by simp at hF)
        have HB1 := Lib.hid (HB.out.trans (hb1.mono HB.out.size))
        have hbs := HB1.out.size
        have hsz : (s ++ y).size = s.size + 4 := by rw [ByteArray.size_append, hs4]
        clear hb1 hfx
        have HZ := Lib.hid hsz
        have hsz2 : (s ++ y).size ≤ 4000000 := by omega
        have hsz3 : s.size + y.size ≤ 4000000 := by omega
        clear hsz hs4
        by_cases hA : (s ++ y).size = 240
        · go_wp2_with (at_builtin; refine append_txt rfl _ _ rfl w.heap.size w1 u4 out rfl hrow1 (s ++ y) rfl (by omega) hbs ?_; intro v2 w2 hr2 hb2)
          go_roundg (n - (i + 1))
          case measure => have := hiI.out; omega
          case rel =>
            obtain ⟨hall, htk, _, hnext, hfit⟩ := HR.out
            refine ⟨i + 1, by go_num, by omega, ?_, ?_, ?_, HB1.out.trans hb2⟩
            · rw [hnext]; unfold chStep; rw [HY.out, if_pos (.inl hA)]
            · intro z hz
              rw [htk] at hz
              rcases List.mem_append.1 hz with h | h
              · exact hall z h
              · obtain rfl : z = x := by simpa using h
                exact hfit
            · rw [hnext]; unfold chStep; rw [HY.out, if_pos (.inl hA)]; exact hr2
        · have hA1 : (((s ++ y).size : Int) == 240) = false := by rw [beq_eq_false_iff_ne]; omega
          have hA2 : (((s.size : Int) + (y.size : Int)) == 240) = false := by rw [beq_eq_false_iff_ne]; have := ByteArray.size_append (a := s) (b := y); omega
          have hA3 : ¬ s.size + y.size = 240 := by have := ByteArray.size_append (a := s) (b := y); omega
          have hA4 : ((s.size + y.size) == 240) = false := by simpa using hA3
          have hA5 : ((s ++ y).size == 240) = false := by simpa using hA
          by_cases hE : i + 1 = n
          · have hE1 : ((i : Int) == (n : Int) - 1) = true := by rw [beq_iff_eq]; omega
            go_wp2_with (at_builtin; refine append_txt rfl _ _ rfl w.heap.size w1 u4 out rfl hrow1 (s ++ y) rfl (by omega) hbs ?_; intro v2 w2 hr2 hb2)
            go_roundg (n - (i + 1))
            case measure => have := hiI.out; omega
            case rel =>
              obtain ⟨hall, htk, _, hnext, hfit⟩ := HR.out
              refine ⟨i + 1, by go_num, by omega, ?_, ?_, ?_, HB1.out.trans hb2⟩
              · rw [hnext]; unfold chStep; rw [HY.out, if_pos (.inr hE)]
              · intro z hz
                rw [htk] at hz
                rcases List.mem_append.1 hz with h | h
                · exact hall z h
                · obtain rfl : z = x := by simpa using h
                  exact hfit
              · rw [hnext]; unfold chStep; rw [HY.out, if_pos (.inr hE)]; exact hr2
          · have hE1 : ((i : Int) == (n : Int) - 1) = false := by rw [beq_eq_false_iff_ne]; omega
            go_wp2_with fail
            go_roundg (n - (i + 1))
            case measure => have := hiI.out; omega
            case rel =>
              obtain ⟨hall, htk, _, hnext, hfit⟩ := HR.out
              refine ⟨i + 1, by go_num, by omega, ?_, ?_, ?_, HB1.out⟩
              · rw [hnext]; unfold chStep; rw [HY.out, if_neg (fun h => h.elim hA hE)]
              · intro z hz
                rw [htk] at hz
                rcases List.mem_append.1 hz with h | h
                · exact hall z h
                · obtain rfl : z = x := by simpa using h
                  exact hfit
              · rw [hnext]; unfold chStep; rw [HY.out, if_neg (fun h => h.elim hA hE)]; exact hrow1
      · rw [fixE_four hfit] at hfx
        have hno : ¬ ∀ x ∈ l, fits x := fun hh => hfit (hh x hmem)
        generalize (⟨(fixB x 4).toArray⟩ : ByteArray) = y at *
        have HR := Lib.hid hno
        clear hc hn hi hbb hcell hall htk hmem hrow hbl hig hnext hx hst hfit hno
        go_wp2_with fail
        refine hfx.mono ?_
        rintro e w1 ⟨rfl, hb1⟩
        have HB1 := Lib.hid (HB.out.trans (hb1.mono HB.out.size))
        clear hb1 hfx
        go_wp2_with fail
        go_ret2
        exact ⟨.inr ⟨HR.out, rfl⟩, HB1.out⟩
    · obtain rfl : i = n := by omega
      have HR := Lib.hid (And.intro hall (And.intro hrow (And.intro hbl hn)))
      clear hc hn hi hall hrow hbl
      go_wp2_with fail
      go_ret2
      obtain ⟨h1, h2, h3, h4⟩ := HR.out
      rw [← h4, List.take_length] at h1
      exact ⟨.inl ⟨h1, _, rfl, h2⟩, h3⟩
end Go.Proofs.YtlalhinodmmgfaaGreat

namespace Go.Proofs.YtlalhinodmmgfaaGreat
open Go.RowKit

/-- The body of some numbers, one behind the other. -/
def bodyOn (s : ByteArray) (l : List Int) : ByteArray := l.foldl (fun s x => s ++ four x) s
def bodyOf (l : List Int) : ByteArray := bodyOn ⟨#[]⟩ l
/-- Sixty numbers at a time. -/
def parts : Nat → List Int → List (List Int)
  | 0, _ => []
  | n + 1, l => if l = [] then [] else l.take 60 :: parts n (l.drop 60)
def chRun (n : Nat) : Nat → List ByteArray × ByteArray → List Int → List ByteArray × ByteArray
  | _, st, [] => st
  | i, st, x :: r => chRun n (i + 1) (chStep n st i x) r

theorem chRun_to (l : List Int) : ∀ (k i : Nat), i + k = l.length → chRun l.length i (chTo l i) (l.drop i) = chTo l l.length
  | 0, i, h => by
    obtain rfl : i = l.length := by omega
    rw [List.drop_length]
    rfl
  | k + 1, i, h => by
    have hi : i < l.length := by omega
    rw [List.drop_eq_getElem_cons hi]
    show chRun l.length (i + 1) (chStep l.length (chTo l i) i l[i]) (l.drop (i + 1)) = _
    have he : chStep l.length (chTo l i) i l[i] = chTo l (i + 1) := by
      show _ = chStep l.length (chTo l i) i (l.getD i 0)
      rw [List.getD, List.getElem?_eq_getElem hi]
      rfl
    rw [he]
    exact chRun_to l k (i + 1) (by omega)

theorem run_part (n : Nat) : ∀ (p r : List Int) (i c : Nat) (out : List ByteArray) (s : ByteArray), p ≠ [] → s.size = 4 * c → c + p.length ≤ 60 → (c + p.length = 60 ∨ r = []) → i + p.length + r.length = n →
    chRun n i (out, s) (p ++ r) = chRun n (i + p.length) (out ++ [bodyOn s p], ⟨#[]⟩) r
  | [], _, _, _, _, _, h, _, _, _, _ => absurd rfl h
  | [x], r, i, c, out, s, _, hs, hc, hor, hn => by
    have he : chStep n (out, s) i x = (out ++ [s ++ four x], ⟨#[]⟩) := by
      unfold chStep
      rw [if_pos]
      rw [ByteArray.size_append, four_size, hs]
      rcases hor with h | h
      · simp at h; left; omega
      · subst h; simp at hn; right; omega
    show chRun n (i + 1) (chStep n (out, s) i x) r = _
    rw [he]
    rfl
  | x :: y :: p, r, i, c, out, s, _, hs, hc, hor, hn => by
    simp only [List.length_cons] at hc hor hn
    have he : chStep n (out, s) i x = (out, s ++ four x) := by
      unfold chStep
      rw [if_neg]
      rw [ByteArray.size_append, four_size, hs]
      omega
    show chRun n (i + 1) (chStep n (out, s) i x) ((y :: p) ++ r) = _
    rw [he, run_part n (y :: p) r (i + 1) (c + 1) out (s ++ four x) (by simp) (by rw [ByteArray.size_append, four_size, hs]; omega) (by simp only [List.length_cons]; omega) (hor.imp (fun h => by simp only [List.length_cons]; omega) id) (by simp only [List.length_cons]; omega)]
    have e1 : i + 1 + (y :: p).length = i + (x :: y :: p).length := by simp only [List.length_cons]; omega
    rw [e1]
    rfl

theorem run_parts (n : Nat) : ∀ (k : Nat) (l : List Int) (i : Nat) (out : List ByteArray), l.length ≤ k → i + l.length = n → chRun n i (out, ⟨#[]⟩) l = (out ++ (parts k l).map bodyOf, ⟨#[]⟩)
  | 0, l, i, out, hk, hn => by
    obtain rfl : l = [] := List.eq_nil_of_length_eq_zero (by omega)
    simp [chRun, parts]
  | k + 1, l, i, out, hk, hn => by
    by_cases hl : l = []
    · subst hl
      simp [chRun, parts]
    · have h0 : 0 < l.length := List.length_pos_iff.2 hl
      have ht : (l.take 60).length = min 60 l.length := List.length_take
      have hd : (l.drop 60).length = l.length - 60 := List.length_drop
      have h1 := run_part n (l.take 60) (l.drop 60) i 0 out ⟨#[]⟩ (by intro h; rw [h] at ht; simp at ht; omega) rfl (by omega) (by
        by_cases h : 60 ≤ l.length
        · left; omega
        · right; exact List.drop_eq_nil_of_le (by omega)) (by omega)
      rw [List.take_append_drop] at h1
      have e2 : parts (k + 1) l = l.take 60 :: parts k (l.drop 60) := by
        show (if l = [] then [] else l.take 60 :: parts k (l.drop 60)) = _
        rw [if_neg hl]
      rw [h1, run_parts n k (l.drop 60) _ _ (by omega) (by omega), e2, List.map_cons, List.append_assoc]
      rfl

/-- What the document's own Chain tells. -/
theorem chTo_bodies (l : List Int) : (chTo l l.length).1 = (parts l.length l).map bodyOf := by
  have h1 := chRun_to l l.length 0 (by omega)
  rw [List.drop_zero] at h1
  have h2 := run_parts l.length l.length l 0 [] (Nat.le_refl _) (by omega)
  rw [← h1]
  show (chRun l.length 0 ([], ⟨#[]⟩) l).1 = _
  rw [h2]
  rfl

theorem bodyOn_list : ∀ (l : List Int) (s : ByteArray), (bodyOn s l).data.toList = s.data.toList ++ l.flatMap fun x => leb 4 x.toNat
  | [], s => by simp [bodyOn]
  | x :: r, s => by
    show (bodyOn (s ++ four x) r).data.toList = _
    rw [bodyOn_list r (s ++ four x), List.flatMap_cons, ← List.append_assoc]
    congr 1
end Go.Proofs.YtlalhinodmmgfaaGreat
