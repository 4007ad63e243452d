/-
  Free pages: All.
-/
import Derived.Test.YtlignamakiiokaaGreatDoorMg10
import Derived.Test.YtlignamakiiokaaGreatDoorMg27
import Derived.Test.YtlignamakiiokaaGreatDoorMg26
namespace Go.Proofs.YtlignamakiiokaaGreatDoor
open Go.RowKit Go.Sort

/-- Where All stands: j of those that wait stand behind the free ones. -/
def AllAt (w : World) (sl : List Int) (d : List Due) (v2 : Value) (n : Nat) (g : Nat) (lv iv : Value) (wr : World) : Prop :=
  ∃ j : Nat, iv = .int .i64 j ∧ j + g = n ∧ wr.ownsRow 0 3 1 lv (sl.length + j) ((sl ++ whats (d.take j)).map (.int .i64)) ∧ (∀ q, lv.ownBlock = some q → w.heap.size ≤ q ∧ v2.ownBlock ≠ some q) ∧
    wr.ownsRow 0 173 3 v2 n (dlist d) ∧ Below w.heap.size w wr

set_option maxRecDepth 100000 in
set_option maxHeartbeats 1000000 in
theorem fall_any {p : Nat} {w : World} {F : List Nat} {l k : List Int} {m : List Due} {sq : Int} (h : FreeIs p w F l sq m k) (hfew : l.length + m.length ≤ 1000000) :
    Calls Tryz.prog 42 #[.pointer (some ⟨p, 0, none⟩)] w fun e w' => ∃ v', e = .returned v' ∧ w'.ownsRow w.heap.size 3 1 v' (l.length + m.length) (((l ++ whats m).mergeSort leInt).map (.int .i64)) ∧ Below w.heap.size w w' := by
  obtain ⟨S, F0, h0, _, _⟩ := h.free
  have hli := list_any h0
  have H := Lib.hid (And.intro h hfew)
  obtain ⟨L, hL⟩ : ∃ n, l.length = n := ⟨_, rfl⟩
  obtain ⟨n, hn⟩ : ∃ n, m.length = n := ⟨_, rfl⟩
  rw [hL, hn]
  rw [hL] at hli
  have HN := Lib.hid (And.intro hL hn)
  clear h h0 hL hn hfew
  go_enter Tryz.func42, Tryz.ntmps42
  go_wp2_with fail
  refine hli.mono ?_
  rintro e w1 ⟨v1, rfl, ho1, hb1⟩
  obtain ⟨A1, c1, hv1⟩ := row_form ho1
  obtain ⟨S1, G1, h1, _, _⟩ := (H.out.1.below hb1).waits
  have hll := llist_any h1
  rw [HN.out.2] at hll
  have H1 := Lib.hid (And.intro ho1 (And.intro hb1 hv1))
  clear ho1 hb1 hli h1
  subst hv1
  go_wp2_with fail
  refine hll.mono ?_
  rintro e w2 ⟨v2, d, rfl, hdp, hds, ho2, hb2⟩
  obtain ⟨A2, c2, hv2⟩ := row_form ho2
  have hst : AllAt w (l.mergeSort leInt) d v2 n n (.slice A1 L c1) (.int .i64 0) w2 := by
    obtain ⟨ho1, hb1, _⟩ := H1.out
    have hlen : (l.mergeSort leInt).length = L := by rw [List.length_mergeSort, HN.out.1]
    refine ⟨0, rfl, by omega, ?_, fun q hq => ⟨(ho1.lt q hq).1, fun h2 => ?_⟩, row_base0 ho2, hb1.trans (hb2.mono hb1.size)⟩
    · rw [hlen]
      simpa [whats] using row_kept (row_base0 ho1) (Kept.of_below (F := []) hb2) (by simp)
    · have := (ho1.lt q hq).2
      have := (ho2.lt q h2).1
      omega
  have H2 := Lib.hid (And.intro hst (And.intro hdp hv2))
  clear hst hdp hds ho2 hb2 hll
  subst hv2
  go_wp2_with fail
  go_loopg [3, 17] n (AllAt w (l.mergeSort leInt) d (.slice A2 n c2) n)
  case atStart => exact H2.out.1
  case round =>
    obtain ⟨j, rfl, hjg, hol, hne, hod, hbw⟩ := hrel
    have hdl : d.length = n := by rw [H2.out.2.1.length_eq, HN.out.2]
    have hsl : (l.mergeSort leInt).length = L := by rw [List.length_mergeSort, HN.out.1]
    by_cases hlt : j < n
    · have hjd : j < d.length := by omega
      rcases hod.2 with ⟨_, h1⟩ | ⟨g2, cap2, cur2, hv, _, hg2, _⟩
      · omega
      · simp only [Value.slice.injEq] at hv
        obtain ⟨rfl, _, rfl⟩ := hv
        have hod' : wr.ownsRow 0 173 3 (.slice (some ⟨g2, 0, none⟩) n c2) n (dlist d.toArray.toList) := by simpa using hod
        have rn := due_range hod' (i := j) (by simpa using hjd)
        have hxe : d.toArray[j]! = d[j] := by simp [hjd]
        rw [hxe] at rn
        have c0 := rn 0 (.int .i64 d[j].1) rfl
        have c1' := rn 1 (.int .i64 d[j].2.1) rfl
        have c2' := rn 2 (.int .i64 d[j].2.2) rfl
        simp only [Nat.add_zero] at c0
        have hw : whats (d.take (j + 1)) = whats (d.take j) ++ [d[j].2.2] := by
          unfold whats
          rw [List.take_succ_eq_append_getElem hjd, List.map_append]
          rfl
        have hgl : g2 < wr.heap.size := lt_of_block hg2
        obtain ⟨A3, c3, hv3⟩ := row_form hol
        obtain ⟨i0, hi0, hzz0, hzz1, hzz2⟩ := info_parts Tryz.infoInt
        have hra := World.ownsRow.alloc (World.ownsRow.alloc hol (.cells #[.int .i64 d[j].1, .int .i64 d[j].2.1, .int .i64 d[j].2.2] 173)) (.cells #[.int .i64 d[j].2.2] 3)
        have hrd := World.ownsRow.alloc (World.ownsRow.alloc hod (.cells #[.int .i64 d[j].1, .int .i64 d[j].2.1, .int .i64 d[j].2.2] 173)) (.cells #[.int .i64 d[j].2.2] 3)
        have hbl : Below wr.heap.size wr ((wr.alloc (.cells #[.int .i64 d[j].1, .int .i64 d[j].2.1, .int .i64 d[j].2.2] 173)).alloc (.cells #[.int .i64 d[j].2.2] 3)) := ((Below.refl _ _).alloc (Nat.le_refl _) _).alloc (by simp) _
        have HR := Lib.hid (And.intro hw (And.intro hne (And.intro hrd (And.intro hbl hbw))))
        have hLn : L + n ≤ 1000000 := by have := H.out.2; rw [HN.out.1, HN.out.2] at this; exact this
        rw [hsl] at hra hv3
        have HSL := Lib.hid hsl
        generalize d[j] = x at *
        have hj1 : (j : Int) < n := by omega
        have hj0 : (0 : Int) ≤ j := by omega
        have hjb : decide ((j : Int) < 0) = false := by simp
        have hjb2 : decide (n ≤ j) = false := by simp; omega
        subst hv3
        have hcell : ∀ q u, ([.int .i64 x.2.2] : List Value)[q]? = some u → ((wr.alloc (.cells #[.int .i64 x.1, .int .i64 x.2.1, .int .i64 x.2.2] 173)).alloc (.cells #[.int .i64 x.2.2] 3)).cell? ((⟨wr.heap.size + 1, 0, none⟩ : Addr).add q) = some u := by
          intro q u hq
          rcases q with _ | q <;> simp at hq
          subst hq
          simp [Go.WideShapes.add_plain]
        clear hol hne hrd hbl hbw hod hod' rn hxe hw hg2 hdl hsl
        go_wp2_with (at_builtin; refine wpList_append_keeps rfl _ _ 69 3 i0 (.int .i64 0) 1 8 Tryz.underlying69 hi0 hzz0 hzz1 hzz2 rfl (by decide) rfl _ (.slice A3 (L + j) c3) (L + j) _ rfl hra ⟨wr.heap.size + 1, 0, none⟩ 1 1 rfl [.int .i64 x.2.2] rfl hcell (by intro u hu; simp at hu; subst hu; rfl) (by omega) (by unfold maxLen; omega) (by omega) ?_; intro v' w' hown' hgn)
        go_roundg (n - (j + 1))
        case measure => omega
        case rel =>
          obtain ⟨hw, hne, hrd, hbl, hbw⟩ := HR.out
          have hk := hgn.1
          have hsz := hbl.size
          refine ⟨j + 1, by go_num, by omega, ?_, fun q hq => ?_, row_kept hrd hk.1 (fun q hq hin => ?_), ?_⟩
          · rw [hw, HSL.out]
            have e : L + (j + 1) = L + j + 1 := by omega
            rw [e]
            simpa using hown'
          · rcases hk.2 q (by simp [hq]) with h | h
            · exact hne q (by simpa using h)
            · refine ⟨by have := hbw.size; omega, fun h2 => ?_⟩
              simp [Value.ownBlock] at h2
              omega
          · exact (hne q (by simpa using hin)).2 hq
          · exact (hbw.trans (hbl.mono hbw.size)).trans (hk.1.below (by have := hbw.size; omega) (fun q hq => (hne q (by simpa using hq)).1))
    · obtain rfl : j = n := by omega
      have hfull : d.take j = d := List.take_of_length_le (by omega)
      rw [hfull, hsl] at hol
      have hpm : (l.mergeSort leInt ++ whats d).Perm (l ++ whats m) := (List.mergeSort_perm l leInt).append (H2.out.2.1.map fun d : Due => d.2.2)
      have hlen : (l.mergeSort leInt ++ whats d).length = L + j := by simp [whats, hsl, hdl]
      have hol2 : wr.ownsRow w.heap.size 3 1 u3 (l.mergeSort leInt ++ whats d).length ((l.mergeSort leInt ++ whats d).map (.int .i64)) := by
        rw [hlen]
        refine ⟨hol.1, ?_⟩
        rcases hol.2 with h | ⟨g, cap, cur, rfl, _, rest⟩
        · exact .inl h
        · exact .inr ⟨g, cap, cur, rfl, (hne g rfl).1, rest⟩
      have hso := sort_own hol2 (by rw [hlen]; have := H.out.2; rw [HN.out.1, HN.out.2] at this; exact this)
      rw [sort_perm hpm, hlen] at hso
      have HE := Lib.hid (And.intro hbw hne)
      obtain ⟨A3, c3, hv3⟩ := row_form hol
      subst hv3
      clear hol hol2 hne hod hbw hfull hpm hlen hdl hsl hlt hjg
      go_wp2_with fail
      refine hso.mono ?_
      rintro e w3 ⟨rfl, ho3, hg3⟩
      have H3 := Lib.hid (And.intro ho3 hg3)
      clear ho3 hg3 hso
      go_wp2_with fail
      go_ret
      obtain ⟨hbw, hne⟩ := HE.out
      exact ⟨_, rfl, H3.out.1, hbw.trans (below_of_grownBy' H3.out.2 hbw.size (fun g hg => (hne g hg).1))⟩
end Go.Proofs.YtlignamakiiokaaGreatDoor
