/-
  NumBack: what is laid is read as it was, and a number's bytes are of one way: for every numbers, texts and two ints. Conditions: none but those of the given statement (the tables that the row lists hold what the program's text lays).
-/
import Derived.Test.YtdkafkdilmheiaaDoorFrame
import Derived.Test.YtdkafkdilmheiaaDoorW11
import Derived.Test.YtdkafkdilmheiaaDoorMath4
import Derived.Deep.RegionHeld3
namespace Go.Proofs.YtdkafkdilmheiaaDoor.numBack
open Go.ChangeShapes Go.WideShapes Go.ChangeAt Go.RowKit Go.Lib

set_option maxRecDepth 1000000 in
set_option maxHeartbeats 800000 in
theorem walk_not (vl : Value) (l : List Int) (vt : Value) (t : List ByteArray) (v n : Int) (w : World) (hrl : Reads1 w w.heap.size vl (l.map (Value.int .i64))) (hrt : Reads1 w w.heap.size vt (t.map Value.string)) (hlt : t.length ≤ 9223372036854775807) (hll : l.length ≤ 9223372036854775807)
    (hst : ∀ s ∈ t, s.size ≤ 9223372036854775807) (h : 300 < l.length ∨ ¬ (t.length ≤ 100 ∧ sizes t ≤ 6000)) (ht : TabOK w) :
    Calls Tryd.prog 5 #[vl, vt, .int .i64 v, .int .i64 n] w fun e w' => e = .returned (.bool true) ∧ Below w.heap.size w w' := by
  have HT := Lib.hid ht
  have hin := ht.inside
  clear ht
  obtain ⟨A, c, rfl, _⟩ := hrl
  simp only [List.length_map]
  by_cases h1 : 300 < l.length
  · clear h
    go_enter Tryd.func5, Tryd.ntmps5
    go_wp2_with (go_at_call 11; refine (alive_any _ HT.out).mono ?_; rintro e w2 ⟨rfl, hb2⟩)
    go_ret
    exact ⟨rfl, hb2⟩
  · have hsh := short_any 100 6000 vt t w (by decide) (by decide) hrt hlt hst false (by simp; omega)
    clear h
    go_enter Tryd.func5, Tryd.ntmps5
    go_wp2_with fail
    refine hsh.mono ?_
    rintro e w1 ⟨rfl, hb1⟩
    have hs1 := hb1.size
    go_wp2_with (go_at_call 11; refine (alive_any _ (HT.out.below hb1 hin)).mono ?_; rintro e w2 ⟨rfl, hb2⟩)
    go_ret
    exact ⟨rfl, hb1.trans (hb2.mono hs1)⟩

theorem rbool1 (b : Nat) (w : World) (h : Rd w b [1] 0) : Calls Tryd.prog 35 #[.pointer (some ⟨b, 0, none⟩)] w (RdPost w b (.bool true) [] 0) := rbool_any b [1] w h
theorem rbool0 (b : Nat) (w : World) (h : Rd w b [0] 0) : Calls Tryd.prog 35 #[.pointer (some ⟨b, 0, none⟩)] w (RdPost w b (.bool false) [] 0) := rbool_any b [0] w h
theorem fix_nat {v n : Int} (h : fixE v n = 0) : ∃ u m : Nat, v = u ∧ n = m ∧ 1 ≤ m ∧ m ≤ 7 ∧ u < 2 ^ (8 * m) := by
  unfold fixE at h
  split at h
  · rename_i hc
    obtain ⟨h1, h2, h3, h4⟩ := hc
    refine ⟨v.toNat, n.toNat, by omega, by omega, by omega, by omega, ?_⟩
    have e : ((v.toNat : Int) < 2 ^ (8 * n.toNat)) := by rw [Int.toNat_of_nonneg h3]; exact h4
    have e2 : ((2 : Int) ^ (8 * n.toNat)) = ((2 ^ (8 * n.toNat) : Nat) : Int) := by simp
    rw [e2] at e
    omega
  · omega
theorem unfix_back (u m : Nat) (w : World) (h1 : 1 ≤ m) (h7 : m ≤ 7) (hu : u < 2 ^ (8 * m)) :
    Calls Tryd.prog 14 #[.string ⟨(leb m u).toArray⟩, .int .i64 0, .int .i64 m] w fun e w' => e = .returned (.tuple #[.int .i64 u, .int .i64 0]) ∧ w = w' := by
  have hsz : (⟨(leb m u).toArray⟩ : ByteArray).size = m := by
    show (leb m u).toArray.size = m
    simp [leb_length]
  have h := unfix_ok ⟨(leb m u).toArray⟩ 0 m w h1 h7 (by rw [hsz]; omega) (by rw [hsz]; omega)
  have e : ((⟨(leb m u).toArray⟩ : ByteArray).data.toList.drop 0).take m = leb m u := by
    show ((leb m u).toArray.toList.drop 0).take m = _
    rw [List.drop_zero]
    simp
    exact List.take_of_length_le (by rw [leb_length]; omega)
  rw [e, unleb_leb m u hu] at h
  exact h

theorem new_read (a b : List UInt8) (c : UInt8) (w : World) (h : a.length + b.length + 1 ≤ 9223372036854775807) :
    Calls Tryd.prog 38 #[.string (((⟨a.toArray⟩ : ByteArray) ++ ⟨b.toArray⟩) ++ ⟨#[c]⟩)] w fun e w' => e = .returned (.pointer (some ⟨w.heap.size, 0, none⟩)) ∧ Rd w' w.heap.size (a ++ (b ++ [c])) 0 ∧ Below w.heap.size w w' := by
  have hd : (((⟨a.toArray⟩ : ByteArray) ++ ⟨b.toArray⟩) ++ ⟨#[c]⟩).data.toList = a ++ (b ++ [c]) := by simp
  have hs : (((⟨a.toArray⟩ : ByteArray) ++ ⟨b.toArray⟩) ++ ⟨#[c]⟩).size ≤ 9223372036854775807 := by
    have e : (((⟨a.toArray⟩ : ByteArray) ++ ⟨b.toArray⟩) ++ ⟨#[c]⟩).data.toList.length = (((⟨a.toArray⟩ : ByteArray) ++ ⟨b.toArray⟩) ++ ⟨#[c]⟩).size := Array.length_toList
    rw [← e, hd]
    simp
    omega
  have h := new_any _ w hs
  rw [hd] at h
  exact h

set_option maxRecDepth 1000000 in
set_option maxHeartbeats 1600000 in
theorem walk_main (vl : Value) (l : List Int) (vt : Value) (t : List ByteArray) (v n : Int) (w : World) (hrl : Reads1 w w.heap.size vl (l.map (Value.int .i64))) (hrt : Reads1 w w.heap.size vt (t.map Value.string))
    (hil : ∀ x ∈ l, IsInt x) (hv : IsInt v) (hn : IsInt n) (h1 : l.length ≤ 300) (h2 : t.length ≤ 100) (h3 : sizes t ≤ 6000) (bb : Bool) (c8 : UInt8) (hx : (bb = true ∧ c8 = 1 ∧ 0 < n) ∨ (bb = false ∧ c8 = 0 ∧ ¬ 0 < n)) (ht : TabOK w) :
    Calls Tryd.prog 5 #[vl, vt, .int .i64 v, .int .i64 n] w fun e w' => e = .returned (.bool true) ∧ Below w.heap.size w w' := by
  have HT := Lib.hid ht
  have hin := ht.inside
  have hst : ∀ s ∈ t, s.size ≤ 6000 := fun s hs => by have := sizes_mem t s hs; omega
  have hsh := short_any 100 6000 vt t w (by decide) (by decide) hrt (by omega) (fun s hs => by have := hst s hs; omega) true (by simp; omega)
  have hvar := fun w' (hb : Below w.heap.size w w') => var_any vl l w' ((hrl.below hb).mono hb.size) (by omega) hil
  have htext := fun w' (hb : Below w.heap.size w w') => text_any vt t w' ((hrt.below hb).mono hb.size) (by omega) (by omega)
  have HVAR := Lib.hid hvar
  have HTEXT := Lib.hid htext
  have hvl := varsB_len l hil
  have htl := textsB_len t (fun s hs => by have := hst s hs; omega)
  have hsum : ¬ 9223372036854775807 < (varsB l).length + (textsB t).length := by omega
  clear hvar htext ht
  obtain ⟨A, c, rfl, hcl⟩ := hrl
  obtain ⟨A', c', rfl, hct⟩ := hrt
  simp only [List.length_map] at hcl hct HVAR HTEXT hsh ⊢
  go_enter Tryd.func5, Tryd.ntmps5
  go_wp2_with fail
  refine hsh.mono ?_
  rintro e w1 ⟨rfl, hb1⟩
  have hs1 := hb1.size
  go_wp2_with fail
  refine (HVAR.out _ hb1).mono ?_
  rintro e w2 ⟨rfl, hb2⟩
  have hb02 := hb1.trans (hb2.mono hs1)
  have hs2 := hb02.size
  go_wp2_with fail
  refine (HTEXT.out _ hb02).mono ?_
  rintro e w3 ⟨rfl, hb3⟩
  have hb03 := hb02.trans (hb3.mono hs2)
  have hs3 := hb03.size
  rcases hx with ⟨rfl, rfl, hp⟩ | ⟨rfl, rfl, hp⟩
  all_goals
    go_wp2_with fail
    refine (bool_any _ _).mono ?_
    rintro e w' ⟨rfl, rfl⟩
    have hlen : (varsB l).length + (textsB t).length + 1 ≤ 20000 := by omega
    go_wp2_with fail
    refine (new_read (varsB l) (textsB t) _ _ (by omega)).mono ?_
    rintro e w4 ⟨rfl, hrd, hb4⟩
    have hb04 := hb03.trans (hb4.mono hs3)
    have hin4 := hrd.inside
    have hs4 : w.heap.size ≤ w3.heap.size := hs3
    generalize w3.heap.size = b at *
    clear hb1 hb2 hb02 hb3 hb03 hb4 hs1 hs2 hsh
    go_wp2
    go_loopw [10] (fun i wr => ∃ k : Nat, k ≤ l.length ∧ i = .int .i64 k ∧ Rd wr b (varsB (l.drop k) ++ (textsB t ++ [_])) 0 ∧ Below w.heap.size w wr) (fun i _ => l.length - (RowKit.intOf i).toNat)
    case atStart => exact ⟨0, Nat.zero_le _, rfl, hrd, hb04⟩
    case round =>
      obtain ⟨k, hk, rfl, hrk, hbk⟩ := hrel
      by_cases hlt : k < l.length
      · obtain ⟨b0, off, rfl, hbb, hcell⟩ := hcl (by omega)
        have hck : wr.cell? ⟨b0, off + k, none⟩ = some (.int .i64 l[k]) := (hbk.cell (p := ⟨b0, off + k, none⟩) hbb).trans (hcell k _ (by simp [hlt]))
        have hix := hil l[k] (by simp)
        rw [varsB_drop hlt, List.append_assoc] at hrk
        have hrv := rvar_any b _ wr.drew hrk
        rw [rvar_laid hix] at hrv
        generalize l[k] = x at *
        have HRV := Lib.hid hrv
        clear hrv hrk hcell hcl hil hct
        have hne : some b0 ≠ some b := fun e => by have := Option.some.inj e; omega
        have hxx : ((x : Int) != x) = false := by simp
        go_wp2_with fail
        go_region_held3 (fun w' => w'.cell? ⟨b0, off + k, none⟩ = some (.int .i64 x)) (first | exact hck | exact hck2) (first | (go_at_call 32; ((with_reducible refine HRV.out.mono ?_)); rintro e w5 ⟨rfl, hrd5, hg5⟩; have hck2 := hg5.cell (show wr.drew.cell? ⟨b0, off + k, none⟩ = some (.int .i64 x) from hck) hne))
        go_wp2
        go_roundw
        case rel => exact ⟨k + 1, by omega, by go_num, hrd5, (hbk.drew).trans (below_of_grownBy hg5 hbk.size (by omega))⟩
        case measure => simp [RowKit.intOf]; omega
      · rw [varsB_end (by omega), List.nil_append] at hrk
        have hbks := hbk.size
        clear hcl hil hrd hb04 HVAR HTEXT
        obtain ⟨wo, rfl⟩ : ∃ wo : World, wo = wr := ⟨_, rfl⟩
        go_wp2_with fail
        go_loopw [11] (fun i wr => ∃ j : Nat, j ≤ t.length ∧ i = .int .i64 j ∧ Rd wr b (textsB (t.drop j) ++ [_]) 0 ∧ Below w.heap.size w wr) (fun i _ => t.length - (RowKit.intOf i).toNat)
        case atStart => exact ⟨0, Nat.zero_le _, rfl, hrk, hbk⟩
        case round =>
          obtain ⟨j, hj, rfl, hrj, hbj⟩ := hrel
          by_cases hjt : j < t.length
          · obtain ⟨b0, off, rfl, hbb, hcell⟩ := hct (by omega)
            have hck : wr.cell? ⟨b0, off + j, none⟩ = some (.string t[j]) := (hbj.cell (p := ⟨b0, off + j, none⟩) hbb).trans (hcell j _ (by simp [hjt]))
            have hsx := hst t[j] (by simp)
            have hdl := textsB_drop_len t j
            have hrv := rtext_any b _ 6000 wr.drew hrj (by simp; omega)
            rw [textsB_drop hjt, List.append_assoc, rtext_laid (by omega) (by omega), eta] at hrv
            generalize t[j] = x at *
            have HRV := Lib.hid hrv
            clear hrv hrj hcell hct hst
            have hne : some b0 ≠ some b := fun e => by have := Option.some.inj e; omega
            go_wp2_with fail
            go_region_held3 (fun w' => w'.cell? ⟨b0, off + j, none⟩ = some (.string x)) (first | exact hck | exact hck2) (first | (go_at_call 34; ((with_reducible refine HRV.out.mono ?_)); rintro e w5 ⟨rfl, hrd5, hg5⟩; have hck2 := hg5.cell (show wr.drew.cell? ⟨b0, off + j, none⟩ = some (.string x) from hck) hne))
            go_wp2
            go_roundw
            case rel => exact ⟨j + 1, by omega, by go_num, hrd5, (hbj.drew).trans (below_of_grownBy hg5 hbj.size (by omega))⟩
            case measure => simp [RowKit.intOf]; omega
          · rw [textsB_end (by omega), List.nil_append] at hrj
            have hbjs := hbj.size
            clear hct hst hrk hbk hbks
            go_wp2_with fail
            first | refine (rbool1 _ _ hrj).mono ?_ | refine (rbool0 _ _ hrj).mono ?_
            rintro e w6 ⟨rfl, hrd6, hg6⟩
            have hb6 := hbj.trans (below_of_grownBy hg6 hbjs (by omega))
            have hs6 := hb6.size
            go_wp2_with fail
            refine (end0 _ _ hrd6).mono ?_
            rintro e w' ⟨rfl, rfl⟩
            go_wp2_with fail
            by_cases hfe : fixE v n = 0
            · obtain ⟨u, m, rfl, rfl, hm1, hm7, hu⟩ := fix_nat hfe
              refine (fix_ok u m _ hm1 hm7 (by have := hv.2; omega) hu).mono ?_
              rintro e w7 ⟨rfl, hb7⟩
              have hb07 := hb6.trans (hb7.mono hs6)
              have hs7 := hb07.size
              go_wp2_with fail
              refine (unfix_back u m _ hm1 hm7 hu).mono ?_
              rintro e w' ⟨rfl, rfl⟩
              go_wp2_with fail
              refine (alive_any _ (HT.out.below hb07 hin)).mono ?_
              rintro e w8 ⟨rfl, hb8⟩
              have hsz : (⟨(leb m u).toArray⟩ : ByteArray).size = m := by
                show (leb m u).toArray.size = m
                simp [leb_length]
              go_wp2
              go_ret
              exact ⟨rfl, hb07.trans (hb8.mono hs7)⟩
            · refine (fix_any v n _ hv.2).mono ?_
              rintro e w7 ⟨rfl, hb7⟩
              have hb07 := hb6.trans (hb7.mono hs6)
              have hs7 := hb07.size
              have hfb : ((fixE v n : Int) == 0) = false := by simpa using hfe
              have hfb2 : ((fixE v n : Int) != 0) = true := by simpa using hfe
              go_wp2_with fail
              refine (alive_any _ (HT.out.below hb07 hin)).mono ?_
              rintro e w8 ⟨rfl, hb8⟩
              go_wp2
              go_ret
              exact ⟨rfl, hb07.trans (hb8.mono hs7)⟩

theorem walk_all (vl : Value) (l : List Int) (vt : Value) (t : List ByteArray) (v n : Int) (w : World) (hrl : Reads1 w w.heap.size vl (l.map (Value.int .i64))) (hil : ∀ x ∈ l, IsInt x) (hll : l.length ≤ 9223372036854775807)
    (hrt : Reads1 w w.heap.size vt (t.map Value.string)) (hst : ∀ s ∈ t, s.size ≤ 9223372036854775807) (hlt : t.length ≤ 9223372036854775807) (hv : IsInt v) (hn : IsInt n) (ht : TabOK w) :
    Calls Tryd.prog 5 #[vl, vt, .int .i64 v, .int .i64 n] w fun e w' => e = .returned (.bool true) ∧ Below w.heap.size w w' := by
  by_cases h : 300 < l.length ∨ ¬ (t.length ≤ 100 ∧ sizes t ≤ 6000)
  · exact walk_not vl l vt t v n w hrl hrt hlt hll hst h ht
  · by_cases hp : 0 < n
    · exact walk_main vl l vt t v n w hrl hrt hil hv hn (by omega) (by omega) (by omega) true 1 (Or.inl ⟨rfl, rfl, hp⟩) ht
    · exact walk_main vl l vt t v n w hrl hrt hil hv hn (by omega) (by omega) (by omega) false 0 (Or.inr ⟨rfl, rfl, hp⟩) ht
theorem walk (vl : Value) (l : List Int) {w : World} (hrl : Reads1 w w.heap.size vl (l.map (Value.int .i64))) (hil : ∀ x ∈ l, IsInt x) (hll : l.length ≤ 9223372036854775807)
    (vt : Value) (t : List ByteArray) (hrt : Reads1 w w.heap.size vt (t.map Value.string)) (hst : ∀ s ∈ t, s.size ≤ 9223372036854775807) (hlt : t.length ≤ 9223372036854775807) (v : Int) (hv : IsInt v) (n : Int) (hn : IsInt n) (w' : World) (e : w' = w) (ht : TabOK w') :
    Calls Tryd.prog 5 #[vl, vt, .int .i64 v, .int .i64 n] w' fun e w'' => e = .returned (.bool true) ∧ Below w'.heap.size w' w'' := by
  subst e
  exact walk_all vl l vt t v n w' hrl hil hll hrt hst hlt hv hn ht

theorem contract (H : Type) (enc : TypeId × Value → H) (W : World) (base : Nat) (args : Array Value) (ds gs : List (DataW H)) (before : List MemPlace)
    (hval : ∀ (j : Nat) t v, Tryd.f5.params[j]? = some t → args[j]? = some v → Value.okWide Tryd.prog W .any base t v)
    (hW : DataW.Whole enc Tryd.prog Tryd.f5.params.toList Rows.numBackSpec.vars false W args.toList ds gs before) (hL : laidMetH Tryd.prog Rows.numBackRow.laid W) :
    Calls Tryd.prog 5 args W fun e W' => ∃ v, e = .returned v ∧ Rows.numBackSpec.post enc Tryd.prog Tryd.f5 false true false false W args v W' := by
  have hW' := hW
  obtain ⟨p, q, hA0, hV, rfl, hfz, hnd⟩ := hW
  have hA : DataW.TrodAll enc Tryd.prog W 0 (fun _ => true) true Tryd.f5.params.toList args.toList ds p := hA0
  rw [Tryd.params5] at hA hval
  obtain ⟨v0, vs0, d0, ds0, p0, q0, hargs, rfl, rfl, h0, r00⟩ := trodAll_cons hA
  obtain ⟨v1, vs1, d1, ds1, p1, q1, rfl, rfl, rfl, h1, r01⟩ := trodAll_cons r00
  obtain ⟨v2, vs2, d2, ds2, p2, q2, rfl, rfl, rfl, h2, r02⟩ := trodAll_cons r01
  obtain ⟨v3, vs3, d3, ds3, p3, q3, rfl, rfl, rfl, h3, r03⟩ := trodAll_cons r02
  obtain ⟨rfl, rfl, rfl⟩ := trodAll_nil r03
  obtain rfl : args = #[v0, v1, v2, v3] := by cases args; simp_all
  obtain ⟨rfl, rfl⟩ := trodVars_none hV
  obtain ⟨l0, r0, i0, m0⟩ := reads_ints (hval 0 22 v0 rfl rfl) h0
  obtain ⟨l1, r1, i1, m1⟩ := reads_texts (hval 1 23 v1 rfl rfl) h1
  obtain ⟨n2, rfl, rfl, rfl, w2⟩ := open_int Tryd.underlying3 (hval 2 3 v2 rfl rfl) h2
  obtain ⟨n3, rfl, rfl, rfl, w3⟩ := open_int Tryd.underlying3 (hval 3 3 v3 rfl rfl) h3
  clear hA0
  refine (walk v0 l0 r0 i0 m0 v1 l1 r1 i1 m1 n2 (isInt_of_wf w2) n3 (isInt_of_wf w3) W rfl (tab_ok hL)).mono fun e W' ⟨he, hb⟩ => ?_
  subst he
  exact ⟨_, rfl, law_post hW' rfl rfl (by kernel_rfl) (by kernel_rfl) hb⟩

theorem reads (os : Os) {H : Type} (enc : TypeId × Value → H) : ∃ places, DataW.whole enc Tryd.prog ((laidWorld os).forCall (fun _ _ => 0) ⟨#[], #[.slice none 0 0, .slice none 0 0, .int .i64 0, .int .i64 0], []⟩).memory Tryd.f5.params.toList Rows.numBackSpec.vars false (#[.slice none 0 0, .slice none 0 0, .int .i64 0, .int .i64 0] : Array Value).toList 8 = some ([.nil, .nil, .lit (.int .i64 0), .lit (.int .i64 0)], [], places) :=
  ⟨[], by kernel_rfl⟩

set_option maxRecDepth 100000 in
theorem lifted (os : Os) (started : os.Started) (H : Type) (enc : TypeId × Value → H) (F : Stop.Interp) :
    ReturnsInHanded {} Tryd.checked os 5 .any ((OpenSpec.ofChange Rows.numBackSpec).preRow enc Tryd.prog Tryd.f5 Rows.numBackRow.domain false Rows.numBackRow.laid) (((OpenSpec.ofChange Rows.numBackSpec).at F).post enc Tryd.prog Tryd.f5 false true false false) := by
  obtain ⟨places, hx⟩ := reads os enc
  refine returnsInHanded_of_row (C := Tryd.checked) (s := OpenSpec.ofChange Rows.numBackSpec) own started (by kernel_rfl) Tryd.func5
    (witness_row_at (enc := enc) (C := Tryd.checked) false (laidWorld os) #[.slice none 0 0, .slice none 0 0, .int .i64 0, .int .i64 0] rfl (by kernel_rfl) (by kernel_rfl) (by kernel_rfl)
      (OpenSpec.preRow_of_cond 8 hx (by kernel_rfl) (fun k hk => by cases hk) (by kernel_rfl) (laid_met os _))) ?_
  intro W base args ds gs before hval hW _ _ _ hL _ _
  exact contract H enc W base args ds gs before hval hW hL

theorem said : Rows.NumBackSaid :=
  OpenClaim.holds_of_cond 5 Tryd.f5 rfl rfl rfl rfl rfl rfl rfl ⟨rfl, rfl, rfl, rfl, rfl⟩ rfl rfl rfl rfl rfl (by kernel_rfl) Tryd.func5 (by kernel_rfl)
    (of_decide_eq_true (by kernel_rfl)) (by unfold Func.isWrapper; first | (rw [if_pos (by decide +kernel)]; kernel_rfl) | (rw [if_neg (by decide +kernel)]; exact ⟨rfl, rfl⟩))
    (fun os started H enc _ F => by rw [OpenClaim.pre_eq_preRow]; exact lifted os started H enc F)

theorem plain (f : FuncId) (fn : Func) (hf : Tryd.pinned.checked.prog.funcNamed "arboretum/arboretumlaw1.NumBack" = some f) (hfn : Tryd.pinned.checked.prog.funcs[f]? = some fn) :
    false = Tryd.pinned.checked.prog.looks [] ∧ ∀ (j : Nat) t, fn.params[j]? = some t → Tryd.pinned.checked.prog.wantsStandIn t = false := by
  obtain rfl : f = 5 := Option.some.inj ((show Tryd.prog.funcNamed "arboretum/arboretumlaw1.NumBack" = some 5 by kernel_rfl).symm.trans hf) |>.symm
  obtain rfl : fn = Tryd.f5 := (Option.some.inj (Tryd.func5.symm.trans hfn)).symm
  refine ⟨by kernel_rfl, fun j t ht => ?_⟩
  rw [Tryd.params5] at ht
  have hm : t ∈ [22, 23, 3, 3] := by simpa using Array.mem_of_getElem? ht
  have hall : ([22, 23, 3, 3].all fun u => !Tryd.prog.wantsStandIn u) = true := by kernel_rfl
  exact (show Tryd.prog.wantsStandIn t = false by simpa using List.all_eq_true.1 hall t hm)

theorem card : Rows.NumBackCardSaid :=
  Claim7.holds_tied_plain_at .later [] _ _ _ _ said (fun _ h => by cases h) (by kernel_rfl) (fun _ h => by cases h) numBack_row_tie rfl ⟨rfl, rfl⟩ (by kernel_rfl) rfl plain (by kernel_rfl)

end Go.Proofs.YtdkafkdilmheiaaDoor.numBack
