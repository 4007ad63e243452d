/-
  Walks over the document's own answers to chapter 8: PutLeaf.
-/
import Derived.Test.YtpfifmjcmpankaaGreatMg38
namespace Go.Proofs.YtpfifmjcmpankaaGreat
open Go.RowKit Go.Lib

theorem row_form8 {w : World} {base : Nat} {v : Value} {m : List UInt8} (h : Row w base v m) : ∃ A c, v = .slice A m.length c := by
  rcases h.2 with ⟨rfl, h0⟩ | ⟨g, cap, cur, rfl, _⟩
  · exact ⟨none, 0, by rw [h0]⟩
  · exact ⟨_, _, rfl⟩
theorem putB_no {l : List Itm} (h : ¬ OKL l) : putB l = [] ∧ putE l = 1 := by
  unfold putB putE
  rw [if_neg (fun h2 => h h2.1), if_neg h]
  exact ⟨rfl, rfl⟩

set_option maxRecDepth 100000 in
set_option maxHeartbeats 1000000 in
theorem refPutLeaf_any (v : Value) (l : List Itm) (w : World) (hr : ReadsIt w w.heap.size v l) (hf : ∀ x ∈ l, x.fair) (hl : l.length ≤ 100000) :
    Calls Tryz.prog 9 #[v] w fun e w' => e = .returned (.tuple #[.string ⟨(putB l).toArray⟩, .int .i64 (putE l)]) ∧ Below w.heap.size w w' := by
  obtain ⟨A, c, rfl, _, _, _, hc⟩ := hr
  obtain ⟨PB, hPB⟩ : ∃ S : ByteArray, (⟨(putB l).toArray⟩ : ByteArray) = S := ⟨_, rfl⟩
  obtain ⟨PE, hPE⟩ : ∃ E, putE l = E := ⟨_, rfl⟩
  rw [hPB, hPE]
  have HP := Lib.hid (And.intro hPB hPE)
  have HC := Lib.hid (And.intro hc hf)
  obtain ⟨n, hn⟩ : ∃ n, l.length = n := ⟨_, rfl⟩
  rw [hn] at hl ⊢
  have HN := Lib.hid hn
  clear hPB hPE hc hf hn
  go_enter Tryz.func9, Tryz.ntmps9
  go_wp2_with fail
  go_loopw [4, 5] (fun bv i wr => ∃ k : Nat, k ≤ n ∧ i = .int .i64 k ∧ Row wr w.heap.size bv (leafB (l.take k)) ∧ OKL (l.take k) ∧ (leafB (l.take k)).length ≤ k * 1000000 ∧ Below w.heap.size w wr) (fun _ i _ => n - (RowKit.intOf i).toNat)
  case atStart => exact ⟨0, Nat.zero_le _, rfl, Row.nil_ _ _, ⟨fun x hx => by simp at hx, List.Pairwise.nil⟩, by simp [leafB], Below.refl _ _⟩
  case round =>
    obtain ⟨k, hk, rfl, hrow, hok, hbk, hbl⟩ := hrel
    have hbs := hbl.size
    by_cases hlt : k < n
    · obtain ⟨hc, hf⟩ := HC.out
      have hn := HN.out
      have hkl : k < l.length := by omega
      obtain ⟨b, off, rfl, hbb, hcell⟩ := hc (by omega)
      obtain ⟨c0, c1, c2, c3⟩ := (hcell.below hbl hbb) k hkl
      have hx := hf l[k] (by simp)
      have hnx := fun h1 h2 => okl_next hkl hok h1 h2
      have hno1 : rightB l[k] = false → PB = ⟨#[]⟩ ∧ PE = 1 := fun h => by
        have h3 := putB_no (l := l) (fun h2 => by have := h2.1 l[k] (by simp); rw [h] at this; cases this)
        rw [← HP.out.1, ← HP.out.2, h3.1, h3.2]
        exact ⟨rfl, rfl⟩
      have hlf : leafB (l.take (k + 1)) = leafB (l.take k) ++ itemB l[k] := by rw [take_snoc1 l k hkl, leafB_snoc]
      have hltI : (k : Int) < n := by omega
      cases hri : rightB l[k]
      · have HR := Lib.hid (fun w => refRight_any l[k] w)
        rw [hri] at HR
        obtain ⟨p1, p2⟩ := hno1 hri
        generalize l[k] = x at *
        have HB := Lib.hid hbl
        have e0 := cell_gw c0
        have e1 := cell_gw c1
        have e2 := cell_gw c2
        have e3 := cell_gw c3
        subst p1 p2
        clear hc hf hn hcell hx hnx hno1 hlf hri hok hbk hbl hrow
        go_wp2_with fail
        refine wp_region_gw (by kernel_rfl) (by kernel_rfl) ?_
        repeat (refine wq_step (fun K hK => ?_); go_simp; first | (refine hK _ ?_; clear hK K) | (apply Exists.intro; refine ⟨fun _ => ?_, hK _ ?_⟩; (first | (go_at_call 56; ((with_reducible exact Calls.gw_of (HR.out _)))) | (go_at_call 57; ((with_reducible exact Calls.gw_of (HL.out _))))); clear hK K))
        refine wq_nil ?_
        intro w1 hw1
        replace hw1 := gw_to hw1
        go_wp2
        go_ret2
        exact ⟨rfl, HB.out.trans (hw1.mono hbs)⟩
      · have HR := Lib.hid (fun w => refRight_any l[k] w)
        rw [hri] at HR
        have hIl := item_long hx
        have hIl0 := hIl
        have hI := fun W => refItem_any l[k] W hx
        have hSl := itemS_size l[k]
        have hSd : (itemS l[k]).data.toList = itemB l[k] := by simp [itemS]
        obtain ⟨S, hS⟩ : ∃ S, itemS l[k] = S := ⟨_, rfl⟩
        rw [hS] at hSl hSd
        simp only [hS] at hI
        have HI := Lib.hid hI
        have hkm : k * 1000000 ≤ 100000000000 := by omega
        have HB := Lib.hid hbl
        have e0 := cell_gw c0
        have e1 := cell_gw c1
        have e2 := cell_gw c2
        have e3 := cell_gw c3
        rw [← hSl] at hIl
        by_cases hk0 : k = 0
        · have hok1 := hnx hri (fun h => absurd h (by omega))
          have HLF := Lib.hid (And.intro hlf (And.intro hSd (And.intro hok1 hIl0)))
          generalize l[k] = x at *
          have hk1 : ¬ ((0 : Int) < (k : Int)) := by omega
          have hk2 : ¬ 0 < k := by omega
          have HL := Lib.hid hk2
          clear hc hf hn hcell hx hnx hno1 hlf hri hok hbl hS hSd hok1 hI hk0 hSl hIl0
          go_wp2_with fail
          refine wp_region_gw (by kernel_rfl) (by kernel_rfl) ?_
          repeat (refine wq_step (fun K hK => ?_); go_simp; first | (refine hK _ ?_; clear hK K) | (apply Exists.intro; refine ⟨fun _ => ?_, hK _ ?_⟩; (first | (go_at_call 56; ((with_reducible exact Calls.gw_of (HR.out _)))) | (go_at_call 57; ((with_reducible exact Calls.gw_of (HL.out _))))); clear hK K))
          refine wq_nil ?_
          intro w1 hw1
          replace hw1 := gw_to hw1
          have hrow1 : Row w1 w.heap.size _ _ := hrow.kept (grownBy_of_below (row := none) hw1) (by cases Value.ownBlock u4 <;> simp)
          have c0 := (hw1.cell (p := ⟨b, off + k * 4, none⟩) (Nat.lt_of_lt_of_le hbb hbs)).trans c0
          have c1 := (hw1.cell (p := ⟨b, off + k * 4 + 1, none⟩) (Nat.lt_of_lt_of_le hbb hbs)).trans c1
          have c2 := (hw1.cell (p := ⟨b, off + k * 4 + 2, none⟩) (Nat.lt_of_lt_of_le hbb hbs)).trans c2
          have c3 := (hw1.cell (p := ⟨b, off + k * 4 + 3, none⟩) (Nat.lt_of_lt_of_le hbb hbs)).trans c3
          have hbw1 := HB.out.trans (hw1.mono hbs)
          have hs1 := hbw1.size
          have HB1 := Lib.hid hbw1
          clear hrow hw1 hbw1
          go_wp2_with fail
          refine (HI.out _).mono ?_
          rintro e w2 ⟨rfl, hb2⟩
          have hrow2 : Row w2 w.heap.size _ _ := hrow1.kept (grownBy_of_below (row := none) hb2) (by cases Value.ownBlock u4 <;> simp)
          have hs2 := hb2.size
          have HB2 := Lib.hid (HB1.out.trans (hb2.mono hs1))
          clear hrow1 c0 c1 c2 c3 hb2
          go_wp2_with (at_builtin; refine append_str rfl _ _ rfl w.heap.size _ u4 _ rfl hrow2 S rfl (by omega) (by omega) (by omega) ?_; intro b3 w3 hrow3 hb3)
          go_roundw
          case rel => exact ⟨k + 1, by omega, by go_num, by rw [HLF.out.1, ← HLF.out.2.1]; exact hrow3, HLF.out.2.2.1, by rw [HLF.out.1, List.length_append]; have := HLF.out.2.2.2; omega, HB2.out.trans hb3⟩
          case measure => simp [RowKit.intOf]; omega
        · obtain ⟨j, rfl⟩ : ∃ j, k = j + 1 := ⟨k - 1, by omega⟩
          obtain ⟨b0, b1, b2, b3⟩ := (hcell.below hbl hbb) j (by omega)
          have hjb : (0 : Int) ≤ j := by omega
          have hjl : (j : Int) < (n : Int) := by omega
          have hjl2 : j < n := by omega
          have hj1 : (0 : Int) ≤ (j : Int) + 1 := by omega
          have hj2 : ((j : Int) + 1).toNat = j + 1 := by omega
          have hj3 : (j : Int) + 1 < (n : Int) := by omega
          have hwj : IntKind.i64.wrap (j : Int) = (j : Int) := by rw [IntKind.wrap_i64]; omega
          have e4 := cell_gw b0
          have hLs := fun W => less_any l[j].key l[j + 1].key W (by have := (hf l[j] (by simp)).1; omega) (by have := hx.1; omega)
          cases hlk : ltK l[j].key l[j + 1].key
          · have hnok : ¬ OKL l := fun h2 => by have h3 := h2.2.at (i := j) (j := j + 1) (by omega) (by omega); rw [hlk] at h3; cases h3
            have h3 := putB_no hnok
            have p1 : PB = ⟨#[]⟩ := by rw [← HP.out.1, h3.1]
            have p2 : PE = 1 := by rw [← HP.out.2, h3.2]
            simp only [hlk] at hLs
            have HL := Lib.hid hLs
            generalize l[j + 1] = x at *
            generalize l[j] = y at *
            subst p1 p2
            clear hc hf hn hcell hx hnx hno1 hlf hri hok hbl hS hSd hI hk0 hSl hIl0 hLs hnok h3 hlk hrow hbk
            go_wp2_with fail
            refine wp_region_gw (by kernel_rfl) (by kernel_rfl) ?_
            repeat (refine wq_step (fun K hK => ?_); go_simp; first | (refine hK _ ?_; clear hK K) | (apply Exists.intro; refine ⟨fun _ => ?_, hK _ ?_⟩; (first | (go_at_call 56; ((with_reducible exact Calls.gw_of (HR.out _)))) | (go_at_call 57; ((with_reducible exact Calls.gw_of (HL.out _))))); clear hK K))
            refine wq_nil ?_
            intro w1 hw1
            replace hw1 := gw_to hw1
            go_wp2
            go_ret2
            exact ⟨rfl, HB.out.trans (hw1.mono hbs)⟩
          · have hok1 := hnx hri (fun _ => hlk)
            simp only [hlk] at hLs
            have HL := Lib.hid hLs
            have HLF := Lib.hid (And.intro hlf (And.intro hSd (And.intro hok1 hIl0)))
            generalize l[j + 1] = x at *
            generalize l[j] = y at *
            clear hc hf hn hcell hx hnx hno1 hlf hri hok hbl hS hSd hok1 hI hk0 hSl hIl0 hLs hlk
            go_wp2_with fail
            refine wp_region_gw (by kernel_rfl) (by kernel_rfl) ?_
            repeat (refine wq_step (fun K hK => ?_); go_simp; first | (refine hK _ ?_; clear hK K) | (apply Exists.intro; refine ⟨fun _ => ?_, hK _ ?_⟩; (first | (go_at_call 56; ((with_reducible exact Calls.gw_of (HR.out _)))) | (go_at_call 57; ((with_reducible exact Calls.gw_of (HL.out _))))); clear hK K))
            refine wq_nil ?_
            intro w1 hw1
            replace hw1 := gw_to hw1
            have hrow1 : Row w1 w.heap.size _ _ := hrow.kept (grownBy_of_below (row := none) hw1) (by cases Value.ownBlock u4 <;> simp)
            have c0 := (hw1.cell (p := ⟨b, off + (j + 1) * 4, none⟩) (Nat.lt_of_lt_of_le hbb hbs)).trans c0
            have c1 := (hw1.cell (p := ⟨b, off + (j + 1) * 4 + 1, none⟩) (Nat.lt_of_lt_of_le hbb hbs)).trans c1
            have c2 := (hw1.cell (p := ⟨b, off + (j + 1) * 4 + 2, none⟩) (Nat.lt_of_lt_of_le hbb hbs)).trans c2
            have c3 := (hw1.cell (p := ⟨b, off + (j + 1) * 4 + 3, none⟩) (Nat.lt_of_lt_of_le hbb hbs)).trans c3
            have hbw1 := HB.out.trans (hw1.mono hbs)
            have hs1 := hbw1.size
            have HB1 := Lib.hid hbw1
            clear hrow hw1 hbw1
            go_wp2_with fail
            refine (HI.out _).mono ?_
            rintro e w2 ⟨rfl, hb2⟩
            have hrow2 : Row w2 w.heap.size _ _ := hrow1.kept (grownBy_of_below (row := none) hb2) (by cases Value.ownBlock u4 <;> simp)
            have hs2 := hb2.size
            have HB2 := Lib.hid (HB1.out.trans (hb2.mono hs1))
            clear hrow1 c0 c1 c2 c3 hb2
            go_wp2_with (at_builtin; refine append_str rfl _ _ rfl w.heap.size _ u4 _ rfl hrow2 S rfl (by omega) (by omega) (by omega) ?_; intro b3 w3 hrow3 hb3)
            go_roundw
            case rel => exact ⟨j + 1 + 1, by omega, by go_num, by rw [HLF.out.1, ← HLF.out.2.1]; exact hrow3, HLF.out.2.2.1, by rw [HLF.out.1, List.length_append]; have := HLF.out.2.2.2; omega, HB2.out.trans hb3⟩
            case measure => simp [RowKit.intOf]; omega
    · obtain rfl : k = n := by omega
      have hln := HN.out
      subst hln
      rw [List.take_length] at hrow hok hbk
      have hszl : (leafB l).length = sz l := rfl
      obtain ⟨Ab, cb, hbv⟩ := row_form8 hrow
      subst hbv
      by_cases h240 : sz l ≤ 240
      · have p1 : PB = ⟨(leafB l).toArray⟩ := by rw [← HP.out.1]; unfold putB; rw [if_pos ⟨hok, h240⟩]
        have p2 : PE = 0 := by rw [← HP.out.2]; unfold putE; rw [if_pos hok, if_pos h240]
        subst p1 p2
        have hs1 := row_string hrow
        rw [hszl] at hs1
        have hb240 : ((leafB l).length : Int) ≤ 240 := by omega
        go_wp2_with fail
        go_ret2
        exact ⟨rfl, hbl⟩
      · have p1 : PB = ⟨#[]⟩ := by rw [← HP.out.1]; unfold putB; rw [if_neg (fun h => h240 h.2)]
        have p2 : PE = 2 := by rw [← HP.out.2]; unfold putE; rw [if_pos hok, if_neg h240]
        subst p1 p2
        have hb241 : ¬ ((leafB l).length : Int) ≤ 240 := by omega
        go_wp2_with fail
        go_ret2
        exact ⟨rfl, hbl⟩
end Go.Proofs.YtpfifmjcmpankaaGreat
