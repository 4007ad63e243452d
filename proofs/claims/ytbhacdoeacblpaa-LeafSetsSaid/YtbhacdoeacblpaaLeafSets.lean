/-
  LeafSets (P802): what is put in is found, what is taken out is not, and all else stays; in whatever order items are put in they stand alike. For every items and every key.
-/
import Derived.Test.YtbhacdoeacblpaaLA8
import Derived.Test.YtbhacdoeacblpaaLB1
import Derived.Test.YtbhacdoeacblpaaLB2
import Derived.Test.YtbhacdoeacblpaaFrameI
namespace Go.Proofs.Ytbhacdoeacblpaa.leafSets
open Go.ChangeShapes Go.WideShapes Go.ChangeAt Go.RowKit

theorem setL_sub {l : List Itm} {x y : Itm} (h : y ∈ setL l x) : y = x ∨ y ∈ l := by
  unfold setL at h
  simp only [List.mem_append, List.mem_cons] at h
  rcases h with h | h | h
  · exact .inr (List.mem_of_mem_take h)
  · exact .inl h
  · exact .inr (List.mem_of_mem_drop h)
theorem setAll_sub (l : List Itm) : ∀ {a : List Itm} {y : Itm}, y ∈ setAll a l → y ∈ a ∨ y ∈ l := by
  induction l with
  | nil => intro a y h; exact .inl h
  | cons x l ih =>
    intro a y h
    rcases ih (show y ∈ setAll (setL a x) l from h) with h | h
    · rcases setL_sub h with rfl | h
      · exact .inr (by simp)
      · exact .inl h
    · exact .inr (by simp [h])
theorem delL_sub {l : List Itm} {k : ByteArray} {y : Itm} (h : y ∈ delL l k) : y ∈ l := by
  unfold delL at h
  split at h
  · rcases List.mem_append.1 h with h | h
    · exact List.mem_of_mem_take h
    · exact List.mem_of_mem_drop h
  · exact h

theorem reads_at {w : World} {B : Nat} {A : Option Addr} {n c : Nat} {l : List Itm} (h : ReadsIt w B (.slice A n c) l) {i : Nat} (hi : i < l.length) : ∃ b off, A = some ⟨b, off, none⟩ ∧ b < B ∧ w.cell? ⟨b, off + i * 4, none⟩ = some (.string l[i].key) := by
  obtain ⟨A', c', hv, _, _, _, hc⟩ := h
  simp only [Value.slice.injEq] at hv
  obtain ⟨rfl, _, _⟩ := hv
  obtain ⟨b, off, hA, hlt, hcell⟩ := hc (by omega)
  exact ⟨b, off, hA, hlt, (hcell i hi).1⟩

set_option maxRecDepth 100000 in
set_option maxHeartbeats 4000000 in
theorem walk (w : World) (v : Value) (l : List Itm) (hr : ReadsIt w w.heap.size v l) (hok : ∀ x ∈ l, x.ok) (key : ByteArray) (hk : key.size ≤ 9223372036854775807) :
    Calls Try.prog 4 #[v, .string key] w fun e w' => e = .returned (.bool true) ∧ Below w.heap.size w w' := by
  have hsm := small_any v l w hr (fun x hx => ⟨(hok x hx).1, (hok x hx).2.1⟩)
  obtain ⟨A, c, rfl⟩ := hr.form
  have HAL := Lib.hid (fun W => alive8_any W)
  have HR := Lib.hid (And.intro hr hok)
  clear hr hok
  go_enter Try.func4, Try.ntmps4
  go_wp2_with fail
  refine hsm.mono ?_
  rintro e w1 ⟨b, rfl, hsb, hb1⟩
  clear hsm
  cases b
  · clear hsb
    go_wp2_with fail
    refine (HAL.out _).mono ?_
    rintro e w2 ⟨rfl, hb2⟩
    go_wp2_with fail
    go_ret
    exact ⟨rfl, hb1.trans (hb2.mono hb1.size)⟩
  · obtain ⟨hl100, hl9⟩ := hsb rfl
    clear hsb
    by_cases hin : (l.length : Int) ≤ 30 ∧ (key.size : Int) ≤ 300
    · obtain ⟨hl30, hk3⟩ := hin
      have hl30' : l.length ≤ 30 := by omega
      have hz : ∀ y ∈ l, y.key.size ≤ 281474976710656 ∧ y.val.size ≤ 281474976710656 := fun y hy => by have := sizesI_mem hy; omega
      obtain ⟨hr, hok⟩ := HR.out
      obtain ⟨A', c', hv, hlc, hcm, _, hc⟩ := hr
      cases hv
      have HH := Lib.hid (And.intro hc (And.intro hz hl9))
      clear hc hz hl9 hok hl100
      go_wp2_with fail
      go_loopw [5, 6, 7] (fun av bv i wr => ∃ k : Nat, k ≤ l.length ∧ i = .int .i64 k ∧ ReadsIt wr wr.heap.size av (setAll [] (l.take k)) ∧ ReadsIt wr wr.heap.size bv (setAll [] (l.reverse.take k)) ∧ Below w.heap.size w wr) (fun _ _ i _ => l.length - (RowKit.intOf i).toNat)
      case atStart => exact ⟨0, Nat.zero_le _, rfl, ReadsIt.nil_ _ _, ReadsIt.nil_ _ _, hb1⟩
      case round =>
        obtain ⟨k, hk', rfl, hra, hrb, hbl⟩ := hrel
        have hbs := hbl.size
        by_cases hlt : k < l.length
        · obtain ⟨hc, hz, _⟩ := HH.out
          obtain ⟨b, off, rfl, hbb, hcell⟩ := hc (by omega)
          obtain ⟨m, hm⟩ : ∃ m : Nat, m = l.length - 1 - k := ⟨_, rfl⟩
          have hml : m < l.length := by omega
          have hrk : l.reverse[k]? = some l[m] := by rw [List.getElem?_reverse (by omega), ← hm, List.getElem?_eq_getElem]
          have htk : l.take (k + 1) = l.take k ++ [l[k]] := take_snoc1 l k hlt
          have htb : l.reverse.take (k + 1) = l.reverse.take k ++ [l[m]] := by
            rw [List.take_add_one, hrk]; rfl
          have hza : ∀ y ∈ l[k] :: setAll [] (l.take k), y.key.size ≤ 281474976710656 ∧ y.val.size ≤ 281474976710656 := fun y hy => by
            rcases List.mem_cons.1 hy with rfl | hy
            · exact hz _ (by simp)
            · rcases setAll_sub _ hy with h | h
              · simp at h
              · exact hz _ (List.mem_of_mem_take h)
          have hzb : ∀ y ∈ l[m] :: setAll [] (l.reverse.take k), y.key.size ≤ 281474976710656 ∧ y.val.size ≤ 281474976710656 := fun y hy => by
            rcases List.mem_cons.1 hy with rfl | hy
            · exact hz _ (by simp)
            · rcases setAll_sub _ hy with h | h
              · simp at h
              · exact hz _ (by simpa using List.mem_of_mem_take h)
          have hrA : Rise (setAll [] (l.take k)) := setAll_rise _ rise_nil
          have hrB : Rise (setAll [] (l.reverse.take k)) := setAll_rise _ rise_nil
          have hlA : (setAll [] (l.take k)).length ≤ 30 := by have := setAll_len (l.take k) []; simp at this; omega
          have hlB : (setAll [] (l.reverse.take k)).length ≤ 30 := by have := setAll_len (l.reverse.take k) []; simp at this; omega
          have sA : setAll [] (l.take (k + 1)) = setL (setAll [] (l.take k)) l[k] := by rw [htk, setAll_snoc]
          have sB : setAll [] (l.reverse.take (k + 1)) = setL (setAll [] (l.reverse.take k)) l[m] := by rw [htb, setAll_snoc]
          have HK := Lib.hid (fun W (hb : Below w.heap.size w W) => (hcell.below hb hbb) k hlt)
          have HM := Lib.hid (fun W (hb : Below w.heap.size w W) => (hcell.below hb hbb) m hml)
          generalize l[k] = x at *
          generalize l[m] = y at *
          generalize hA : setAll [] (l.take k) = LA at *
          generalize hB : setAll [] (l.reverse.take k) = LB at *
          obtain ⟨c0, c1, c2, c3⟩ := HK.out wr hbl
          have hS1 := set_any u5 LA x wr hra hrA (by omega) hza
          have hidx : (l.length : Int) - 1 - (k : Int) = (m : Int) := by omega
          have hkl : (k : Int) < l.length := by omega
          have hm0 : (0 : Int) ≤ m := by omega
          have hmI : (m : Int) < l.length := by omega
          obtain ⟨AA, cA, hAA⟩ := hra.form
          obtain ⟨AB, cB, hAB⟩ := hrb.form
          subst hAA hAB
          have HQ := Lib.hid (And.intro hrA (And.intro hrB (And.intro hlA (And.intro hlB (And.intro sA (And.intro sB (And.intro hrb (And.intro hbl hzb))))))))
          clear hrA hrB hlA hlB sA sB hra hrb hbl hza hzb htk htb hrk hA hB hc hz hcell hm hk'
          go_wp2_with fail
          refine hS1.mono ?_
          rintro e w2 ⟨v2, rfl, hown2, hb2⟩
          obtain ⟨hrA, hrB, hlA, hlB, sA, sB, hrb, hbl, hzb⟩ := HQ.out
          have hb2w := hbl.trans (hb2.mono hbs)
          obtain ⟨d0, d1, d2, d3⟩ := HM.out w2 hb2w
          have hS2 := set_any _ LB y w2 (hrb.grow hb2 hb2.size) hrB (by omega) hzb
          have hr2 := row_readsIt hown2
          have HW2 := Lib.hid (And.intro hb2w hr2)
          clear hrA hrB hlA hlB sA sB hrb hbl hzb hown2 hS1 hb2w c0 c1 c2 c3 hb2
          obtain ⟨A2, c2', hA2⟩ := hr2.form
          subst hA2
          clear hr2
          go_wp2_with fail
          refine hS2.mono ?_
          rintro e w3 ⟨v3, rfl, hown3, hb3⟩
          have hb3w := HW2.out.1.trans (hb3.mono HW2.out.1.size)
          have hr3 := row_readsIt hown3
          have hr23 := HW2.out.2.grow hb3 hb3.size
          obtain ⟨A3, c3', hA3⟩ := hr3.form
          subst hA3
          have hF := find_any _ (setL LA x) x.key w3 hr23 (setL_rise HQ.out.1 x) (by have := (setL_len LA x).1; have := HQ.out.2.2.1; omega)
          rw [setL_lb, setL_is] at hF
          obtain ⟨e0, _, _, _⟩ := HK.out w3 hb3w
          have HW3 := Lib.hid (And.intro hb3w (And.intro hr3 hr23))
          clear hS2 hb3w hr3 hr23 hown3 hb3 d0 d1 d2 d3
          obtain ⟨n2, hn2⟩ : ∃ n, (setL LA x).length = n := ⟨_, rfl⟩
          obtain ⟨i2, hi2⟩ : ∃ n, lb LA x.key = n := ⟨_, rfl⟩
          rw [hn2, hi2] at hF
          obtain ⟨hlt2, hat2⟩ := setL_at (l := LA) x
          have HN2 := Lib.hid (And.intro hn2 (And.intro hi2 (And.intro hlt2 hat2)))
          rw [hi2, hn2] at hlt2
          simp only [hn2]
          clear hn2 hi2 hat2
          go_wp2_with fail
          refine hF.mono ?_
          rintro e w4 ⟨rfl, hb4⟩
          obtain ⟨hb3w, hr3, hr23⟩ := HW3.out
          have hb4w := hb3w.trans (hb4.mono hb3w.size)
          have hr34 := hr3.grow hb4 hb4.size
          have hr24 := hr23.grow hb4 hb4.size
          obtain ⟨e0, e1, e2, e3⟩ := HK.out w4 hb4w
          obtain ⟨hn2, hi2, hlt2', hat2⟩ := HN2.out
          have hcl2 : ∃ b2 o2, A2 = some ⟨b2, o2, none⟩ ∧ w4.cell? ⟨b2, o2 + i2 * 4, none⟩ = some (.string x.key) ∧ w4.cell? ⟨b2, o2 + i2 * 4 + 1, none⟩ = some (.string x.val) ∧ w4.cell? ⟨b2, o2 + i2 * 4 + 2, none⟩ = some (.int .i64 x.over) ∧ w4.cell? ⟨b2, o2 + i2 * 4 + 3, none⟩ = some (.int .i64 x.size) := by
            obtain ⟨A', c', hv, _, _, _, h⟩ := hr24
            cases hv
            obtain ⟨b2, o2, h1, _, h3⟩ := h (by omega)
            have h4 := h3 (lb LA x.key) hlt2'
            rw [hat2] at h4
            rw [← hi2]
            exact ⟨b2, o2, h1, h4⟩
          obtain ⟨b2, o2, hA2, q0, q1, q2, q3⟩ := hcl2
          subst hA2
          have hi20 : (0 : Int) ≤ i2 := by omega
          have hi2n : (i2 : Int) < n2 := by omega
          have HW4 := Lib.hid (And.intro hb4w (And.intro hr34 hr24))
          clear hb3w hr3 hr23 hb4w hr34 hr24 hn2 hi2 hlt2' hat2 hF hb4
          go_wp2_with fail
          go_quiet (fail)
          go_wp2_with fail
          go_roundw
          case rel =>
            obtain ⟨h1, h2, h3⟩ := HW4.out
            refine ⟨k + 1, by omega, by go_num, ?_, ?_, below_drewI h1 nq⟩
            · rw [HQ.out.2.2.2.2.1]
              exact (HN2.out.1 ▸ h3 : _)
            · rw [HQ.out.2.2.2.2.2.1]
              exact h2
          case measure => simp [RowKit.intOf]; omega
        · obtain rfl : k = l.length := by omega
          rw [List.take_length] at hra
          rw [← List.length_reverse, List.take_length] at hrb
          have hrA : Rise (setAll [] l) := setAll_rise _ rise_nil
          have hkeys : (setAll [] l).map Itm.key = (setAll [] l.reverse).map Itm.key := setAll_alike (fun k => by simp)
          have hlen : (setAll [] l.reverse).length = (setAll [] l).length := by
            have := congrArg List.length hkeys
            simpa using this.symm
          have hzA : ∀ y ∈ setAll [] l, y.key.size ≤ 281474976710656 ∧ y.val.size ≤ 281474976710656 := fun y hy => by
            rcases setAll_sub _ hy with h | h
            · simp at h
            · exact HH.out.2.1 _ h
          have hlA : (setAll [] l).length ≤ 30 := by have := setAll_len l []; simp at this; omega
          obtain ⟨AA, cA, hAA⟩ := hra.form
          obtain ⟨AB, cB, hAB⟩ := hrb.form
          rw [hlen] at hAB
          subst hAA hAB
          have hR := rises_any _ _ wr hra (fun y hy => by have := hzA y hy; omega)
          rw [decide_eq_true hrA] at hR
          generalize setAll [] l = L1 at *
          generalize setAll [] l.reverse = L2 at *
          obtain ⟨n, hn⟩ : ∃ n, L1.length = n := ⟨_, rfl⟩
          have HA := Lib.hid (And.intro hra (And.intro hrb (And.intro hrA (And.intro hkeys (And.intro hzA (And.intro hn (And.intro hlen hbl)))))))
          rw [hn] at hR ⊢
          have hn30 : (n : Int) ≤ 30 := by omega
          clear hra hrb hrA hkeys hzA hn hlen hbl HH hlA
          go_wp2_with fail
          refine hR.mono ?_
          rintro e w2 ⟨rfl, hb2⟩
          have HB2 := Lib.hid (And.intro (HA.out.2.2.2.2.2.2.2.trans (hb2.mono hbs)) hb2)
          clear hR hb2
          go_wp2_with fail
          obtain ⟨wo, rfl⟩ : ∃ wo : World, wo = wr := ⟨_, rfl⟩
          go_loopw [10] (fun i wq => ∃ k : Nat, k ≤ n ∧ i = .int .i64 k ∧ Below wo.heap.size wo wq) (fun i _ => n - (RowKit.intOf i).toNat)
          case atStart => exact ⟨0, Nat.zero_le _, rfl, HB2.out.2⟩
          case round =>
            obtain ⟨k, hk', rfl, hbq⟩ := hrel
            have hbqs := hbq.size
            by_cases hlt : k < n
            · obtain ⟨hra, hrb, hrA, hkeys, hzA, hn, hlen, hbl⟩ := HA.out
              obtain ⟨b1, o1, hA1, _, c0⟩ := reads_at (hra.below hbq) (i := k) (by omega)
              obtain ⟨b2, o2, hA2, _, d0⟩ := reads_at (hrb.below hbq) (i := k) (by omega)
              subst hA1 hA2
              have hke : L2[k].key = L1[k].key := by
                have h1 : (L1.map Itm.key)[k]? = (L2.map Itm.key)[k]? := by rw [hkeys]
                rw [List.getElem?_map, List.getElem?_map, List.getElem?_eq_getElem (by omega), List.getElem?_eq_getElem (by omega)] at h1
                simpa using h1.symm
              rw [hke] at d0
              generalize L1[k].key = x at *
              have hkn : (k : Int) < n := by omega
              have HQ := Lib.hid hbq
              clear hra hrb hrA hkeys hzA hn hlen hbl hbq hke
              go_wp2_with fail
              go_quiet (fail)
              go_wp2_with fail
              go_roundw
              case rel => exact ⟨k + 1, by omega, by go_num, below_drewI HQ.out nq⟩
              case measure => simp [RowKit.intOf]; omega
            · obtain rfl : k = n := by omega
              obtain ⟨hra, hrb, hrA, hkeys, hzA, hn, hlen, hbl⟩ := HA.out
              have hbw : Below w.heap.size w wr := hbl.trans (hbq.mono hbs)
              have hra2 := hra.grow hbq hbq.size
              rw [hn] at hra2
              have hl30 : L1.length ≤ 30 := by omega
              have hD := del_any (.slice AA k cA) L1 key wr hra2 hrA (by omega) hzA
              have hbT := Lib.hid hbw
              have HL := Lib.hid (And.intro hra2 (And.intro hrA (And.intro hzA hl30)))
              clear hra hrb hrA hkeys hzA hlen hbl hbq hra2 hbw hl30 HA HB2
              go_wp2_with fail
              refine hD.mono ?_
              rintro e w3 ⟨v3, rfl, hown3, hb3⟩
              have hr3 := row_readsIt hown3
              have hra3 := HL.out.1.grow hb3 hb3.size
              have hF1 := find_any _ L1 key w3 hra3 HL.out.2.1 (by have := HL.out.2.2.2; omega)
              have hdl := delL_len (l := L1) key
              have hb3w := hbT.out.trans (hb3.mono hbT.out.size)
              have H3 := Lib.hid (And.intro hr3 (And.intro hra3 (And.intro hb3w hdl)))
              obtain ⟨A3, c3, hv3⟩ := hr3.form
              subst hv3
              clear hr3 hra3 hb3w hown3 hb3 hD hdl
              go_wp2_with fail
              refine hF1.mono ?_
              rintro e w4 ⟨rfl, hb4⟩
              have hr4 := H3.out.1.grow hb4 hb4.size
              have hb4w := H3.out.2.2.1.trans (hb4.mono H3.out.2.2.1.size)
              have hlD : (delL L1 key).length ≤ 30 := by have h1 := H3.out.2.2.2; have h2 := HL.out.2.2.2; rw [h1]; split <;> omega
              have hF2 := find_any _ (delL L1 key) key w4 hr4 (delL_rise HL.out.2.1 key) (by omega)
              rw [delL_gone HL.out.2.1 key] at hF2
              have H4 := Lib.hid (And.intro hr4 (And.intro hb4w hlD))
              clear hr4 hb4w hlD hb4 hF1
              obtain ⟨j1, hj1⟩ : ∃ j, lb L1 key = j := ⟨_, rfl⟩
              obtain ⟨j2, hj2⟩ : ∃ j, lb (delL L1 key) key = j := ⟨_, rfl⟩
              rw [hj2] at hF2
              rw [hj1]
              have HJ := Lib.hid (And.intro hj1 hj2)
              clear hj1 hj2
              go_wp2_with fail
              refine hF2.mono ?_
              rintro e w5 ⟨rfl, hb5⟩
              have hr5 := H4.out.1.grow hb5 hb5.size
              have hb5w := H4.out.2.1.trans (hb5.mono H4.out.2.1.size)
              have hD2 := del_any _ (delL L1 key) key w5 hr5 (delL_rise HL.out.2.1 key) (by have := H4.out.2.2; omega) (fun y hy => HL.out.2.2.1 y (delL_sub hy))
              rw [delL_none (delL_gone HL.out.2.1 key)] at hD2
              have H5 := Lib.hid (And.intro hr5 hb5w)
              clear hr5 hb5w hb5 hF2
              go_wp2_with fail
              refine hD2.mono ?_
              rintro e w6 ⟨v6, rfl, hown6, hb6⟩
              have hr6 := row_readsIt hown6
              have hr56 := H5.out.1.grow hb6 hb6.size
              have hb6w := H5.out.2.trans (hb6.mono H5.out.2.size)
              obtain ⟨A6, c6, hv6⟩ := hr6.form
              subst hv6
              have hlD := H4.out.2.2
              have hdl := H3.out.2.2.2
              have hSI := fun W (hb : Below w6.heap.size w6 W) => sameItems_any _ _ (delL L1 key) W (hr56.grow hb hb.size) (hr6.grow hb hb.size) (by omega)
              have HSI := Lib.hid hSI
              have H6 := Lib.hid hb6w
              rw [hn] at hdl
              clear hSI hb6w hr6 hr56 hown6 hb6 hD2 hlD H3 H4 H5
              generalize (delL L1 key).length = m at *
              have hpos := isAt_iff (l := L1) (k := key)
              cases hT : isAt L1 key
              · rw [hT] at hdl
                simp at hdl
                have hdl' := hdl.symm
                subst hdl'
                have hne : ((k : Int) == (k : Int) - 1) = false := by rw [beq_eq_false_iff_ne]; omega
                have hee : ((k : Int) == (k : Int)) = true := by rw [beq_iff_eq]
                clear hpos hT hn hdl
                go_wp2_with fail
                refine (HAL.out _).mono ?_
                rintro e w7 ⟨rfl, hb7⟩
                go_wp2_with fail
                refine (HSI.out _ hb7).mono ?_
                rintro e w8 ⟨rfl, hb8⟩
                go_wp2_with fail
                go_ret
                exact ⟨rfl, H6.out.trans ((hb7.trans (hb8.mono hb7.size)).mono H6.out.size)⟩
              · rw [hT] at hdl hpos
                simp at hdl
                obtain ⟨hp1, _⟩ := hpos.1 rfl
                obtain ⟨m1, hm1⟩ : ∃ m1, k = m1 + 1 := ⟨k - 1, by omega⟩
                have hdm : m = m1 := by omega
                subst hdm hm1
                have hee : ((m : Int) == (((m + 1 : Nat) : Int)) - 1) = true := by rw [beq_iff_eq]; omega
                clear hpos hT hn hdl
                go_wp2_with fail
                refine (HAL.out _).mono ?_
                rintro e w7 ⟨rfl, hb7⟩
                go_wp2_with fail
                refine (HSI.out _ hb7).mono ?_
                rintro e w8 ⟨rfl, hb8⟩
                go_wp2_with fail
                go_ret
                exact ⟨rfl, H6.out.trans ((hb7.trans (hb8.mono hb7.size)).mono H6.out.size)⟩
    · go_wp2_with fail
      all_goals
        first
          | (refine (HAL.out _).mono ?_
             rintro e w2 ⟨rfl, hb2⟩
             go_wp2_with fail
             go_ret
             exact ⟨rfl, hb1.trans (hb2.mono hb1.size)⟩)
          | (exfalso; omega)

set_option maxRecDepth 100000 in
theorem lifted (os : Os) (started : os.Started) (H : Type) (enc : TypeId × Value → H) :
    ReturnsInHanded {} Try.checked os 4 .any (Rows.leafSetsSpec.pre6 enc Try.prog Try.f4 Rows.leafSetsRow.domain false) (Rows.leafSetsSpec.post enc Try.prog Try.f4 false true false false) := by
  refine returnsInHanded_of_change (C := Try.checked) own started (by kernel_rfl) Try.func4
    (ChangeSpec.witness6 (enc := enc) (C := Try.checked) false ⟨#[], #[.slice none 0 0, .string ByteArray.empty], []⟩ 8 (by kernel_rfl) (by kernel_rfl) (by kernel_rfl) (by kernel_rfl)) ?_
  intro W base args ds gs before hval0 hW hcnd _
  have hval : ∀ (j : Nat) t v, Try.f4.params[j]? = some t → args[j]? = some v → Value.okWide Try.prog W .any base t v := hval0
  have hW' := hW
  obtain ⟨p, q, hA0, hV, rfl, hfz, hnd⟩ := hW
  have hA : DataW.TrodAll enc Try.prog W 0 (fun _ => true) true Try.f4.params.toList args.toList ds p := hA0
  rw [Try.params4] at hA hval
  obtain ⟨v0, vs0, d0, ds0, p0, q0, hargs, rfl, rfl, h0, r00⟩ := trodAll_cons hA
  obtain ⟨v1, vs1, d1, ds1, p1, q1, rfl, rfl, rfl, h1, r01⟩ := trodAll_cons r00
  obtain ⟨rfl, rfl, rfl⟩ := trodAll_nil r01
  obtain rfl : args = #[v0, v1] := by cases args; simp_all
  obtain ⟨rfl, rfl⟩ := trodVars_none hV
  obtain ⟨l0, r0, i0, m0⟩ := reads_items (hval 0 22 v0 rfl rfl) h0
  obtain ⟨s1, rfl, rfl, rfl, z1⟩ := Go.ChangeMaps.open_string Try.underlying9 (hval 1 9 v1 rfl rfl) h1
  clear hA0 hval0
  refine (walk W v0 l0 r0 i0 s1 (le_of_maxLen z1)).mono fun e W' ⟨he, hb⟩ => ?_
  subst he
  exact ⟨_, rfl, law_post hW' rfl rfl (by kernel_rfl) (by kernel_rfl) hb⟩

theorem said : Rows.LeafSetsSaid :=
  OpenClaim.holds_of_wide 4 Try.f4 rfl rfl rfl rfl rfl rfl rfl ⟨rfl, rfl, rfl, rfl, rfl⟩ rfl rfl rfl rfl rfl (by kernel_rfl) Try.func4 (by kernel_rfl)
    (of_decide_eq_true (by kernel_rfl)) (by unfold Func.isWrapper; first | (rw [if_pos (by decide +kernel)]; kernel_rfl) | (rw [if_neg (by decide +kernel)]; exact ⟨rfl, rfl⟩))
    (fun os started H enc _ => lifted os started H enc)
end Go.Proofs.Ytbhacdoeacblpaa.leafSets
