/-
  NumTells: every number, text and truth as bytes, and every sum, are as the document tells; what is handed in stays: for every three ints, text, numbers and texts. Conditions: none but those of the given statement (the tables that the row lists hold what the program's text lays).
-/
import Derived.Test.YtdkafkdilmheiaaDoorFrame
import Derived.Test.YtdkafkdilmheiaaDoorW11
import Derived.Test.YtdkafkdilmheiaaDoorMath4
import Derived.Test.YtdkafkdilmheiaaDoorR1
import Derived.Test.YtdkafkdilmheiaaDoorR2
import Derived.Test.YtdkafkdilmheiaaDoorR3
import Derived.Test.YtdkafkdilmheiaaDoorR4
import Derived.Test.YtdkafkdilmheiaaDoorR5
import Derived.Test.YtdkafkdilmheiaaDoorR6
import Derived.Deep.RegionHeld3
namespace Go.Proofs.YtdkafkdilmheiaaDoor.numTells
open Go.ChangeShapes Go.WideShapes Go.ChangeAt Go.RowKit Go.Lib

set_option maxRecDepth 1000000 in
set_option maxHeartbeats 800000 in
theorem walk_not (v n at' : Int) (s : ByteArray) (vl : Value) (l : List Int) (vt : Value) (t : List ByteArray) (w : World) (hrl : Reads1 w w.heap.size vl (l.map (Value.int .i64))) (hrt : Reads1 w w.heap.size vt (t.map Value.string)) (hlt : t.length ≤ 9223372036854775807) (hll : l.length ≤ 9223372036854775807)
    (hst : ∀ s ∈ t, s.size ≤ 9223372036854775807) (hs : s.size ≤ 9223372036854775807) (h : 3000 < s.size ∨ 300 < l.length ∨ ¬ (t.length ≤ 100 ∧ sizes t ≤ 6000)) (ht : TabOK w) :
    Calls Tryd.prog 3 #[.int .i64 v, .int .i64 n, .int .i64 at', .string s, vl, vt] w fun e w' => e = .returned (.bool true) ∧ Below w.heap.size w w' := by
  have HT := Lib.hid ht
  have hin := ht.inside
  clear ht
  obtain ⟨A, c, rfl, _⟩ := hrl
  simp only [List.length_map]
  by_cases h0 : 3000 < s.size
  · clear h
    go_enter Tryd.func3, Tryd.ntmps3
    go_wp2_with (go_at_call 11; refine (alive_any _ HT.out).mono ?_; rintro e w2 ⟨rfl, hb2⟩)
    go_ret
    exact ⟨rfl, hb2⟩
  · by_cases h1 : 300 < l.length
    · clear h
      go_enter Tryd.func3, Tryd.ntmps3
      go_wp2_with (go_at_call 11; refine (alive_any _ HT.out).mono ?_; rintro e w2 ⟨rfl, hb2⟩)
      go_ret
      exact ⟨rfl, hb2⟩
    · have hsh := short_any 100 6000 vt t w (by decide) (by decide) hrt hlt hst false (by simp; omega)
      clear h
      go_enter Tryd.func3, Tryd.ntmps3
      go_wp2_with fail
      refine hsh.mono ?_
      rintro e w1 ⟨rfl, hb1⟩
      have hs1 := hb1.size
      go_wp2_with (go_at_call 11; refine (alive_any _ (HT.out.below hb1 hin)).mono ?_; rintro e w2 ⟨rfl, hb2⟩)
      go_ret
      exact ⟨rfl, hb1.trans (hb2.mono hs1)⟩

theorem one_int (l : List Int) : ∀ u ∈ l.map (Value.int .i64), u.oneCell' = true := by
  intro u hu
  obtain ⟨x, _, rfl⟩ := List.mem_map.1 hu
  rfl
theorem one_str (l : List ByteArray) : ∀ u ∈ l.map Value.string, u.oneCell' = true := by
  intro u hu
  obtain ⟨x, _, rfl⟩ := List.mem_map.1 hu
  rfl

theorem flat_len (l : List ByteArray) : (flat l).length = sizes l := by
  induction l with
  | nil => rfl
  | cons a r ih =>
    simp only [flat, sizes, List.flatMap_cons, List.length_append, List.map_cons, List.sum_cons] at *
    rw [ih]
    first | done | simp
theorem of_list {s : ByteArray} {L : List UInt8} (h : s.data.toList = L) : s = ⟨L.toArray⟩ := by
  rw [← h]
theorem list_len {s : ByteArray} {L : List UInt8} (h : s.data.toList = L) : s.size = L.length := by
  rw [← h]; simp

set_option maxRecDepth 1000000 in
set_option maxHeartbeats 3200000 in
theorem walk_main (v n at' : Int) (s : ByteArray) (vl : Value) (l : List Int) (vt : Value) (t : List ByteArray) (w : World) (hrl : Reads1 w w.heap.size vl (l.map (Value.int .i64))) (hrt : Reads1 w w.heap.size vt (t.map Value.string))
    (hfl : ∀ n c, vl = .slice none n c → n = 0 ∧ c = 0) (hft : ∀ n c, vt = .slice none n c → n = 0 ∧ c = 0)
    (hil : ∀ x ∈ l, IsInt x) (hv : IsInt v) (_hn : IsInt n) (ha : IsInt at') (h0 : s.size ≤ 3000) (h1 : l.length ≤ 300) (h2 : t.length ≤ 100) (h3 : sizes t ≤ 6000) (ht : TabOK w) :
    Calls Tryd.prog 3 #[.int .i64 v, .int .i64 n, .int .i64 at', .string s, vl, vt] w fun e w' => e = .returned (.bool true) ∧ Below w.heap.size w w' := by
  have HT := Lib.hid ht
  have hin := ht.inside
  have hst : ∀ s ∈ t, s.size ≤ 6000 := fun s hs => by have := sizes_mem t s hs; omega
  have hsh := short_any 100 6000 vt t w (by decide) (by decide) hrt (by omega) (fun s hs => by have := hst s hs; omega) true (by simp; omega)
  have hfix := fun w => fix_any v n w hv.2
  have hrfix := fun w => refFix_any v n w hv.2
  have hunf := fun w => unfix_any s at' n w (by omega) ha.2
  have hrunf := fun w => refUnfix_any s at' n w (by omega) ha.2
  have hnum := fun w => number_any s w (by omega)
  have hrnum := fun w => refNumber_any s w (by omega)
  have hli := fun w' (hb : Below w.heap.size w w') => lentInts_any vl _ w' ((hrl.below hb).mono hb.size) hfl (one_int l) (by simp; omega)
  have hlt := fun w' (hb : Below w.heap.size w w') => lentTexts_any vt _ w' ((hrt.below hb).mono hb.size) hft (one_str t) (by simp; omega)
  have hstl := fun w' (hb : Below w.heap.size w w') base m hm => staysInts_any base m vl l w' hm ((hrl.below hb).mono hb.size) (by omega)
  have hstt := fun w' (hb : Below w.heap.size w w') base m hm => staysTexts_any base m vt t w' hm ((hrt.below hb).mono hb.size) (by omega)
  have hrvars := fun w' (hb : Below w.heap.size w w') => refVars_any vl l w' ((hrl.below hb).mono hb.size) (by omega) hil
  generalize fixB v n = fb at hfix hrfix
  generalize fixE v n = fe at hfix hrfix
  generalize unfixV s.data.toList at' n = uv at hunf hrunf
  generalize unfixE s.data.toList at' n = ue at hunf hrunf
  unfold numPost at hnum hrnum
  generalize (numOf s.data.toList).getD 0 = nv at hnum hrnum
  generalize (if (numOf s.data.toList).isSome = true then (0 : Int) else 1) = ne at hnum hrnum
  have HFIX := Lib.hid hfix
  have HRFIX := Lib.hid hrfix
  have HUNF := Lib.hid hunf
  have HRUNF := Lib.hid hrunf
  have HNUM := Lib.hid hnum
  have HRNUM := Lib.hid hrnum
  have HLI := Lib.hid hli
  have HLT := Lib.hid hlt
  have HSTL := Lib.hid hstl
  have HSTT := Lib.hid hstt
  have HRVARS := Lib.hid hrvars
  clear hfix hrfix hunf hrunf hnum hrnum hli hlt hstl hstt hrvars ht hfl hft
  obtain ⟨A, c, rfl, hcl⟩ := hrl
  obtain ⟨A', c', rfl, hct⟩ := hrt
  simp only [List.length_map] at hcl hct HLI HLT HSTL HSTT HRVARS hsh ⊢
  go_enter Tryd.func3, Tryd.ntmps3
  go_wp2_with fail
  refine hsh.mono ?_
  rintro e w1 ⟨rfl, hb1⟩
  have hs1 := hb1.size
  go_wp2_with fail
  refine (HFIX.out _).mono ?_
  rintro e w2 ⟨rfl, hb2⟩
  have hb02 := hb1.trans (hb2.mono hs1)
  have hs2 := hb02.size
  clear hb1 hb2 hs1 hsh
  go_wp2_with fail
  refine (HRFIX.out _).mono ?_
  rintro e w3 ⟨rfl, hb3⟩
  have hb03 := hb02.trans (hb3.mono hs2)
  have hs3 := hb03.size
  clear hb02 hb3 hs2
  go_wp2_with fail
  refine (HUNF.out _).mono ?_
  rintro e w' ⟨rfl, rfl⟩
  go_wp2_with fail
  refine (HRUNF.out _).mono ?_
  rintro e w' ⟨rfl, rfl⟩
  go_wp2_with fail
  refine (HNUM.out _).mono ?_
  rintro e w' ⟨rfl, rfl⟩
  go_wp2_with fail
  refine (HRNUM.out _).mono ?_
  rintro e w' ⟨rfl, rfl⟩
  go_wp2_with fail
  refine (HLI.out _ hb03).mono ?_
  rintro e w4 ⟨m, rfl, hlm, hb4⟩
  have hb04 := hb03.trans (hb4.mono hs3)
  have hs4 := hb04.size
  clear hb03 hb4
  go_wp2_with fail
  refine (HLT.out _ hb04).mono ?_
  rintro e w5 ⟨q, rfl, hlq, hb5⟩
  have hlm5 := hlm.below hb5 (Nat.le_refl _)
  have hb05 := hb04.trans (hb5.mono hs4)
  have hs5 := hb05.size
  clear hb04 hb5 hlm hs4 hs3 HFIX HRFIX HUNF HRUNF HNUM HRNUM HLI HLT
  go_wp2
  go_loopw [27, 28, 29] (fun x y i wr => ∃ (k : Nat) (AA JJ : ByteArray), k ≤ t.length ∧ i = .int .i64 k ∧ x = .string AA ∧ AA.data.toList = textsB (t.take k) ∧ y = .string JJ ∧ JJ.data.toList = flat (t.take k) ∧ Below w5.heap.size w5 wr) (fun _ _ i _ => t.length - (RowKit.intOf i).toNat)
  case atStart => exact ⟨0, ⟨#[]⟩, ⟨#[]⟩, Nat.zero_le _, rfl, rfl, rfl, rfl, rfl, Below.refl _ _⟩
  case round =>
    obtain ⟨k, AA, JJ, hk, rfl, rfl, hAA, rfl, hJJ, hbk⟩ := hrel
    have hbks := hbk.size
    by_cases hlt : k < t.length
    · obtain ⟨b0, off, rfl, hbb, hcell⟩ := hct (by omega)
      have hck : wr.cell? ⟨b0, off + k, none⟩ = some (.string t[k]) := ((hb05.trans (hbk.mono hs5)).cell (p := ⟨b0, off + k, none⟩) hbb).trans (hcell k _ (by simp [hlt]))
      have hsx := hst t[k] (by simp)
      have hA2 : textsB (t.take (k + 1)) = textsB (t.take k) ++ textB t[k] := by rw [take_snoc1 t k hlt, textsB_snoc]
      have hJ2 : flat (t.take (k + 1)) = flat (t.take k) ++ t[k].data.toList := by rw [take_snoc1 t k hlt, flat_snoc]
      have hsz1 : AA.size ≤ 7000 := by
        rw [list_len hAA]
        have h4 := textsB_len (t.take k) (fun v hv => by have := hst v (List.mem_of_mem_take hv); omega)
        have h5 := sizes_take t k
        simp at h4
        omega
      have hsz2 : JJ.size ≤ 6000 := by
        rw [list_len hJJ, flat_len]
        have h5 := sizes_take t k
        omega
      have hrt := fun w => refText_any t[k] w (by omega)
      generalize t[k] = x at *
      have htl : (⟨(textB x).toArray⟩ : ByteArray).data.toList = textB x := by simp
      have hts : (⟨(textB x).toArray⟩ : ByteArray).size ≤ 7000 := by
        rw [list_len htl]
        have hi : IsInt (x.size : Int) := ⟨by omega, by omega⟩
        have h10 := uvarint_length64 (zigzag_lt hi.1 hi.2)
        simp [textB]
        omega
      generalize (⟨(textB x).toArray⟩ : ByteArray) = TT at hrt htl hts
      have HA2 : Hid ((AA ++ TT).data.toList = textsB (t.take (k + 1))) := by show _ = _; rw [hA2, ← hAA, ← htl]; simp
      have HJ2 : Hid ((JJ ++ x).data.toList = flat (t.take (k + 1))) := by show _ = _; rw [hJ2, ← hJJ]; simp
      have HRT := Lib.hid hrt
      have hin0 : b0 < wr.heap.size := by omega
      have hlt' : (k : Int) < (t.length : Int) := by omega
      have hsum1 : ¬ 9223372036854775807 < AA.size + TT.size := by omega
      have hsum2 : ¬ 9223372036854775807 < JJ.size + x.size := by omega
      clear hrt hA2 hJ2 hAA hJJ htl hcell hct hst hcl hil
      go_wp2_with fail
      go_region_held3 (fun w' => w'.cell? ⟨b0, off + k, none⟩ = some (.string x)) (first | exact hck | exact hck2) (first | (go_at_call 20; ((with_reducible refine (HRT.out _).mono ?_)); rintro e w6 ⟨rfl, hb6⟩; have hck2 := (hb6.cell (p := ⟨b0, off + k, none⟩) hin0).trans hck))
      go_wp2
      go_roundw
      case rel => exact ⟨k + 1, AA ++ TT, JJ ++ x, by omega, by go_num, rfl, HA2.out, rfl, HJ2.out, (hbk.drew).trans (hb6.mono hbks)⟩
      case measure => simp [RowKit.intOf]; omega
    · have htk : t.take k = t := List.take_of_length_le (by omega)
      rw [htk] at hAA hJJ
      obtain rfl := of_list hAA
      have hJs : JJ.size ≤ 6000 := by
        rw [list_len hJJ, flat_len]
        exact h3
      have hrc := fun w => refCrc_any JJ w (by omega)
      rw [hJJ] at hrc
      have HRC := Lib.hid hrc
      have hb0 := hb05.trans (hbk.mono hs5)
      have hs0 := hb0.size
      have hm0 := hlm5.below hbk (Nat.le_refl _)
      have hq0 := hlq.below hbk (Nat.le_refl _)
      have hvars := fun w' base (h : Lent w' base (l.map (Value.int .i64)) markI m) => var_any m l w' h.reads (by omega) hil
      have htexts := fun w' base (h : Lent w' base (t.map Value.string) markS q) => text_any q t w' h.reads (by omega) (by omega)
      have hcrc := fun w' base (h : Lent w' base (t.map Value.string) markS q) => crc_any q t w' h.reads (by omega) (fun s hs => by have := hst s hs; omega)
      have HVARS := Lib.hid hvars
      have HTEXTS := Lib.hid htexts
      have HCRC := Lib.hid hcrc
      have HDIG := Lib.hid (fun w' (h : TabOK w') => digits_any v w' hv h)
      have HRDIG := Lib.hid (fun w' => refDigits_any v w' hv)
      have hbool := fun w' => bool_any (decide (0 < n)) w'
      have hrbool := fun w' => refBool_any (decide (0 < n)) w'
      generalize (⟨#[if decide (0 < n) = true then 1 else 0]⟩ : ByteArray) = BX at hbool hrbool
      have HBOOL := Lib.hid hbool
      have HRBOOL := Lib.hid hrbool
      clear hbool hrbool
      clear hrc hvars htexts hcrc hct hcl hst hil hlm5 hlq hbk hbks hb05 hs5 htk hAA hJJ
      generalize (⟨(textsB t).toArray⟩ : ByteArray) = TX at HTEXTS
      generalize (⟨(varsB l).toArray⟩ : ByteArray) = VX at HVARS HRVARS
      generalize crcB (flat t) = CX at HCRC HRC
      generalize (⟨(itoa v).toArray⟩ : ByteArray) = DX at HDIG HRDIG
      go_wp2_with fail
      refine (alive_any _ (HT.out.below hb0 hin)).mono ?_
      rintro e w6 ⟨rfl, hb6⟩
      have hb06 := hb0.trans (hb6.mono hs0)
      have hs6 := hb06.size
      have hm6 := hm0.below hb6 (Nat.le_refl _)
      have hq6 := hq0.below hb6 (Nat.le_refl _)
      clear hb0 hs0 hm0 hq0 hb6
      go_wp2_with fail
      refine (HVARS.out _ _ hm6).mono ?_
      rintro e w7 ⟨rfl, hb7⟩
      have hb07 := hb06.trans (hb7.mono hs6)
      have hs7 := hb07.size
      have hm7 := hm6.below hb7 (Nat.le_refl _)
      have hq7 := hq6.below hb7 (Nat.le_refl _)
      clear hb06 hs6 hm6 hq6 hb7
      go_wp2_with fail
      refine (HRVARS.out _ hb07).mono ?_
      rintro e w8 ⟨rfl, hb8⟩
      have hb08 := hb07.trans (hb8.mono hs7)
      have hs8 := hb08.size
      have hm8 := hm7.below hb8 (Nat.le_refl _)
      have hq8 := hq7.below hb8 (Nat.le_refl _)
      clear hb07 hs7 hm7 hq7 hb8
      go_wp2_with fail
      refine (HTEXTS.out _ _ hq8).mono ?_
      rintro e w9 ⟨rfl, hb9⟩
      have hb09 := hb08.trans (hb9.mono hs8)
      have hs9 := hb09.size
      have hm9 := hm8.below hb9 (Nat.le_refl _)
      have hq9 := hq8.below hb9 (Nat.le_refl _)
      clear hb08 hs8 hm8 hq8 hb9
      go_wp2_with fail
      refine (HCRC.out _ _ hq9).mono ?_
      rintro e w' ⟨rfl, rfl⟩
      go_wp2_with fail
      refine (HRC.out _).mono ?_
      rintro e w' ⟨rfl, rfl⟩
      go_wp2_with fail
      refine (HDIG.out _ (HT.out.below hb09 hin)).mono ?_
      rintro e w10 ⟨rfl, hb10⟩
      have hb010 := hb09.trans (hb10.mono hs9)
      have hs10 := hb010.size
      have hm10 := hm9.below hb10 (Nat.le_refl _)
      have hq10 := hq9.below hb10 (Nat.le_refl _)
      clear hb09 hs9 hm9 hq9 hb10
      go_wp2_with fail
      refine (HRDIG.out _).mono ?_
      rintro e w11 ⟨rfl, hb11⟩
      have hb011 := hb010.trans (hb11.mono hs10)
      have hs11 := hb011.size
      have hm11 := hm10.below hb11 (Nat.le_refl _)
      have hq11 := hq10.below hb11 (Nat.le_refl _)
      clear hb010 hs10 hm10 hq10 hb11
      go_wp2_with fail
      refine (HBOOL.out _).mono ?_
      rintro e w' ⟨rfl, rfl⟩
      go_wp2_with fail
      refine (HRBOOL.out _).mono ?_
      rintro e w' ⟨rfl, rfl⟩
      go_wp2_with fail
      refine (HSTL.out _ hb011 _ _ hm11).mono ?_
      rintro e w12 ⟨rfl, hb12⟩
      have hb012 := hb011.trans (hb12.mono hs11)
      have hs12 := hb012.size
      have hq12 := hq11.below hb12 (Nat.le_refl _)
      go_wp2_with fail
      refine (HSTT.out _ hb012 _ _ hq12).mono ?_
      rintro e w13 ⟨rfl, hb13⟩
      go_wp2
      go_ret
      exact ⟨rfl, hb012.trans (hb13.mono hs12)⟩

theorem form_ints {H : Type} {enc : TypeId × Value → H} {W : World} {sp : Nat → Bool} {v : Value} {d : DataW H} {ps : List MemPlace} (hd : DataW.Trod enc Tryd.prog W 0 sp true 22 v d ps) : ∀ n c, v = .slice none n c → n = 0 ∧ c = 0 := by
  rintro n c rfl
  obtain ⟨fuel, hf⟩ := hd
  rcases open_ints Tryd.underlying22 Tryd.underlying3 (by kernel_rfl) hf with ⟨hcs, _⟩ | ⟨a, len', cap', zs, hcs, _⟩
  · simp [Value.cells] at hcs
    exact hcs
  · simp [Value.cells] at hcs
theorem form_texts {H : Type} {enc : TypeId × Value → H} {W : World} {sp : Nat → Bool} {v : Value} {d : DataW H} {ps : List MemPlace} (hd : DataW.Trod enc Tryd.prog W 0 sp true 23 v d ps) : ∀ n c, v = .slice none n c → n = 0 ∧ c = 0 := by
  rintro n c rfl
  obtain ⟨fuel, hf⟩ := hd
  rcases open_strings Tryd.underlying23 Tryd.underlying9 (by kernel_rfl) hf with ⟨hcs, _⟩ | ⟨a, len', cap', zs, hcs, _⟩
  · simp [Value.cells] at hcs
    exact hcs
  · simp [Value.cells] at hcs

section
variable {H : Type} {enc : TypeId × Value → H} {W : World} {r : Reach} {b0 : Nat} {sp : Nat → Bool} {v : Value} {d : DataW H} {ps : List MemPlace}
/-- As the frame's, and: what is nil has no room. -/
theorem reads_ints (hv : Value.okWide Tryd.prog W r b0 22 v) (hd : DataW.Trod enc Tryd.prog W 0 sp true 22 v d ps) :
    ∃ l : List Int, Reads1 W W.heap.size v (l.map (Value.int .i64)) ∧ (∀ x ∈ l, IsInt x) ∧ (l.length ≤ 9223372036854775807 ∧ ∀ n c, v = .slice none n c → n = 0 ∧ c = 0) := by
  obtain ⟨l, h1, h2, h3⟩ := Go.Proofs.YtdkafkdilmheiaaDoor.reads_ints hv hd
  exact ⟨l, h1, h2, h3, form_ints hd⟩
theorem reads_texts (hv : Value.okWide Tryd.prog W r b0 23 v) (hd : DataW.Trod enc Tryd.prog W 0 sp true 23 v d ps) :
    ∃ l : List ByteArray, Reads1 W W.heap.size v (l.map Value.string) ∧ (∀ s ∈ l, s.size ≤ 9223372036854775807) ∧ (l.length ≤ 9223372036854775807 ∧ ∀ n c, v = .slice none n c → n = 0 ∧ c = 0) := by
  obtain ⟨l, h1, h2, h3⟩ := Go.Proofs.YtdkafkdilmheiaaDoor.reads_texts hv hd
  exact ⟨l, h1, h2, h3, form_texts hd⟩
end

theorem walk (v : Int) (hv : IsInt v) (n : Int) (hn : IsInt n) (at' : Int) (ha : IsInt at') (s : ByteArray) (hs : s.size ≤ 9223372036854775807)
    (vl : Value) (l : List Int) {w : World} (hrl : Reads1 w w.heap.size vl (l.map (Value.int .i64))) (hil : ∀ x ∈ l, IsInt x) (hll : l.length ≤ 9223372036854775807 ∧ ∀ n c, vl = .slice none n c → n = 0 ∧ c = 0)
    (vt : Value) (t : List ByteArray) (hrt : Reads1 w w.heap.size vt (t.map Value.string)) (hst : ∀ s ∈ t, s.size ≤ 9223372036854775807) (hlt : t.length ≤ 9223372036854775807 ∧ ∀ n c, vt = .slice none n c → n = 0 ∧ c = 0) (w' : World) (e : w' = w) (ht : TabOK w') :
    Calls Tryd.prog 3 #[.int .i64 v, .int .i64 n, .int .i64 at', .string s, vl, vt] w' fun e w'' => e = .returned (.bool true) ∧ Below w'.heap.size w' w'' := by
  subst e
  by_cases h : 3000 < s.size ∨ 300 < l.length ∨ ¬ (t.length ≤ 100 ∧ sizes t ≤ 6000)
  · exact walk_not v n at' s vl l vt t w' hrl hrt hlt.1 hll.1 hst hs h ht
  · exact walk_main v n at' s vl l vt t w' hrl hrt hll.2 hlt.2 hil hv hn ha (by omega) (by omega) (by omega) (by omega) ht

theorem contract (H : Type) (enc : TypeId × Value → H) (W : World) (base : Nat) (args : Array Value) (ds gs : List (DataW H)) (before : List MemPlace)
    (hval : ∀ (j : Nat) t v, Tryd.f3.params[j]? = some t → args[j]? = some v → Value.okWide Tryd.prog W .any base t v)
    (hW : DataW.Whole enc Tryd.prog Tryd.f3.params.toList Rows.numTellsSpec.vars false W args.toList ds gs before) (hL : laidMetH Tryd.prog Rows.numTellsRow.laid W) :
    Calls Tryd.prog 3 args W fun e W' => ∃ v, e = .returned v ∧ Rows.numTellsSpec.post enc Tryd.prog Tryd.f3 false true false false W args v W' := by
  have hW' := hW
  obtain ⟨p, q, hA0, hV, rfl, hfz, hnd⟩ := hW
  have hA : DataW.TrodAll enc Tryd.prog W 0 (fun _ => true) true Tryd.f3.params.toList args.toList ds p := hA0
  rw [Tryd.params3] at hA hval
  obtain ⟨v0, vs0, d0, ds0, p0, q0, hargs, rfl, rfl, h0, r00⟩ := trodAll_cons hA
  obtain ⟨v1, vs1, d1, ds1, p1, q1, rfl, rfl, rfl, h1, r01⟩ := trodAll_cons r00
  obtain ⟨v2, vs2, d2, ds2, p2, q2, rfl, rfl, rfl, h2, r02⟩ := trodAll_cons r01
  obtain ⟨v3, vs3, d3, ds3, p3, q3, rfl, rfl, rfl, h3, r03⟩ := trodAll_cons r02
  obtain ⟨v4, vs4, d4, ds4, p4, q4, rfl, rfl, rfl, h4, r04⟩ := trodAll_cons r03
  obtain ⟨v5, vs5, d5, ds5, p5, q5, rfl, rfl, rfl, h5, r05⟩ := trodAll_cons r04
  obtain ⟨rfl, rfl, rfl⟩ := trodAll_nil r05
  obtain rfl : args = #[v0, v1, v2, v3, v4, v5] := by cases args; simp_all
  obtain ⟨rfl, rfl⟩ := trodVars_none hV
  obtain ⟨n0, rfl, rfl, rfl, w0⟩ := open_int Tryd.underlying3 (hval 0 3 v0 rfl rfl) h0
  obtain ⟨n1, rfl, rfl, rfl, w1⟩ := open_int Tryd.underlying3 (hval 1 3 v1 rfl rfl) h1
  obtain ⟨n2, rfl, rfl, rfl, w2⟩ := open_int Tryd.underlying3 (hval 2 3 v2 rfl rfl) h2
  obtain ⟨s3, rfl, rfl, rfl, z3⟩ := Go.ChangeMaps.open_string Tryd.underlying9 (hval 3 9 v3 rfl rfl) h3
  obtain ⟨l4, r4, i4, m4⟩ := reads_ints (hval 4 22 v4 rfl rfl) h4
  obtain ⟨l5, r5, i5, m5⟩ := reads_texts (hval 5 23 v5 rfl rfl) h5
  clear hA0
  refine (walk n0 (isInt_of_wf w0) n1 (isInt_of_wf w1) n2 (isInt_of_wf w2) s3 (le_of_maxLen z3) v4 l4 r4 i4 m4 v5 l5 r5 i5 m5 W rfl (tab_ok hL)).mono fun e W' ⟨he, hb⟩ => ?_
  subst he
  exact ⟨_, rfl, law_post hW' rfl rfl (by kernel_rfl) (by kernel_rfl) hb⟩

theorem reads (os : Os) {H : Type} (enc : TypeId × Value → H) : ∃ places, DataW.whole enc Tryd.prog ((laidWorld os).forCall (fun _ _ => 0) ⟨#[], #[.int .i64 0, .int .i64 0, .int .i64 0, .string ByteArray.empty, .slice none 0 0, .slice none 0 0], []⟩).memory Tryd.f3.params.toList Rows.numTellsSpec.vars false (#[.int .i64 0, .int .i64 0, .int .i64 0, .string ByteArray.empty, .slice none 0 0, .slice none 0 0] : Array Value).toList 8 = some ([.lit (.int .i64 0), .lit (.int .i64 0), .lit (.int .i64 0), .lit (.string []), .nil, .nil], [], places) :=
  ⟨[], by kernel_rfl⟩

set_option maxRecDepth 100000 in
theorem lifted (os : Os) (started : os.Started) (H : Type) (enc : TypeId × Value → H) (F : Stop.Interp) :
    ReturnsInHanded {} Tryd.checked os 3 .any ((OpenSpec.ofChange Rows.numTellsSpec).preRow enc Tryd.prog Tryd.f3 Rows.numTellsRow.domain false Rows.numTellsRow.laid) (((OpenSpec.ofChange Rows.numTellsSpec).at F).post enc Tryd.prog Tryd.f3 false true false false) := by
  obtain ⟨places, hx⟩ := reads os enc
  refine returnsInHanded_of_row (C := Tryd.checked) (s := OpenSpec.ofChange Rows.numTellsSpec) own started (by kernel_rfl) Tryd.func3
    (witness_row_at (enc := enc) (C := Tryd.checked) false (laidWorld os) #[.int .i64 0, .int .i64 0, .int .i64 0, .string ByteArray.empty, .slice none 0 0, .slice none 0 0] rfl (by kernel_rfl) (by kernel_rfl) (by kernel_rfl)
      (OpenSpec.preRow_of_cond 8 hx (by kernel_rfl) (fun k hk => by cases hk) (by kernel_rfl) (laid_met os _))) ?_
  intro W base args ds gs before hval hW _ _ _ hL _ _
  exact contract H enc W base args ds gs before hval hW hL

theorem said : Rows.NumTellsSaid :=
  OpenClaim.holds_of_cond 3 Tryd.f3 rfl rfl rfl rfl rfl rfl rfl ⟨rfl, rfl, rfl, rfl, rfl⟩ rfl rfl rfl rfl rfl (by kernel_rfl) Tryd.func3 (by kernel_rfl)
    (of_decide_eq_true (by kernel_rfl)) (by unfold Func.isWrapper; first | (rw [if_pos (by decide +kernel)]; kernel_rfl) | (rw [if_neg (by decide +kernel)]; exact ⟨rfl, rfl⟩))
    (fun os started H enc _ F => by rw [OpenClaim.pre_eq_preRow]; exact lifted os started H enc F)

theorem plain (f : FuncId) (fn : Func) (hf : Tryd.pinned.checked.prog.funcNamed "arboretum/arboretumlaw1.NumTells" = some f) (hfn : Tryd.pinned.checked.prog.funcs[f]? = some fn) :
    false = Tryd.pinned.checked.prog.looks [] ∧ ∀ (j : Nat) t, fn.params[j]? = some t → Tryd.pinned.checked.prog.wantsStandIn t = false := by
  obtain rfl : f = 3 := Option.some.inj ((show Tryd.prog.funcNamed "arboretum/arboretumlaw1.NumTells" = some 3 by kernel_rfl).symm.trans hf) |>.symm
  obtain rfl : fn = Tryd.f3 := (Option.some.inj (Tryd.func3.symm.trans hfn)).symm
  refine ⟨by kernel_rfl, fun j t ht => ?_⟩
  rw [Tryd.params3] at ht
  have hm : t ∈ [3, 3, 3, 9, 22, 23] := by simpa using Array.mem_of_getElem? ht
  have hall : ([3, 3, 3, 9, 22, 23].all fun u => !Tryd.prog.wantsStandIn u) = true := by kernel_rfl
  exact (show Tryd.prog.wantsStandIn t = false by simpa using List.all_eq_true.1 hall t hm)

theorem card : Rows.NumTellsCardSaid :=
  Claim7.holds_tied_plain_at .later [] _ _ _ _ said (fun _ h => by cases h) (by kernel_rfl) (fun _ h => by cases h) numTells_row_tie rfl ⟨rfl, rfl⟩ (by kernel_rfl) rfl plain (by kernel_rfl)

end Go.Proofs.YtdkafkdilmheiaaDoor.numTells
