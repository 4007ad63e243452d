/-
  Walks over package leaf: Del, half, Split.
-/
import Derived.Test.YtpfifmjcmpankaaGreatMg25
import Derived.Test.YtpfifmjcmpankaaGreatMg15
namespace Go.Proofs.YtpfifmjcmpankaaGreat
open Go.RowKit Go.Lib

theorem bcell {W w1 : World} (hb : Below W.heap.size W w1) : ∀ b o, b < W.heap.size → w1.cell? ⟨b, o, none⟩ = W.cell? ⟨b, o, none⟩ :=
  fun b o h => hb.cell (p := ⟨b, o, none⟩) h
/-- copied, of one list, and of two. -/
theorem copy_one {W : World} {v : Value} {l : List Itm} {g : Nat} (hg : W.cell? ⟨g, 0, none⟩ = some v) (h : ReadsIt W W.heap.size v l) (hl : l.length ≤ 1000000) (hz : ∀ y ∈ l, y.key.size ≤ 281474976710656 ∧ y.val.size ≤ 281474976710656) :
    Calls Tryz.prog 71 #[.slice (some ⟨g, 0, none⟩) 1 1] W fun e w' => ∃ v', e = .returned v' ∧ w'.ownsRow W.heap.size 24 4 v' l.length (ilist l) ∧ Below W.heap.size W w' := by
  have hflat : flatI [(v, l)] = l := by simp [flatI]
  have hr : Reads1 W W.heap.size (.slice (some ⟨g, 0, none⟩) 1 1) ([(v, l)].map fun p => p.1) := by
    refine ⟨_, _, rfl, fun _ => ⟨g, 0, rfl, World.block_lt_of_cell? W _ hg, fun j u hu => ?_⟩⟩
    match j, hu with
    | 0, hu => simp at hu; subst hu; exact hg
    | j + 1, hu => simp at hu
  have hc := copied_any _ [(v, l)] W hr (by intro p hp; simp at hp; subst hp; exact h) (by rw [hflat]; exact hl) (by simp) (by rw [hflat]; exact hz)
  rw [hflat] at hc
  exact hc
theorem copy_from {w W : World} {v : Value} {l : List Itm} {g : Nat} (hb : Below w.heap.size w W) (hg : W.cell? ⟨g, 0, none⟩ = some v) (h : ReadsIt w w.heap.size v l) (hl : l.length ≤ 1000000) (hz : ∀ y ∈ l, y.key.size ≤ 281474976710656 ∧ y.val.size ≤ 281474976710656) :
    Calls Tryz.prog 71 #[.slice (some ⟨g, 0, none⟩) 1 1] W fun e w' => ∃ v', e = .returned v' ∧ w'.ownsRow W.heap.size 24 4 v' l.length (ilist l) ∧ Below W.heap.size W w' ∧ Below w.heap.size w w' :=
  (copy_one hg (h.grow hb hb.size) hl hz).mono fun _ _ ⟨v', k1, k2, k3⟩ => ⟨v', k1, k2, k3, hb.trans (k3.mono hb.size)⟩
theorem copy_two {W : World} {v v2 : Value} {l m : List Itm} {g : Nat} (hg : W.cell? ⟨g, 0, none⟩ = some v) (hg2 : W.cell? ⟨g, 1, none⟩ = some v2) (h : ReadsIt W W.heap.size v l) (h2 : ReadsIt W W.heap.size v2 m) (hl : (l ++ m).length ≤ 1000000) (hz : ∀ y ∈ l ++ m, y.key.size ≤ 281474976710656 ∧ y.val.size ≤ 281474976710656) :
    Calls Tryz.prog 71 #[.slice (some ⟨g, 0, none⟩) 2 2] W fun e w' => ∃ v', e = .returned v' ∧ w'.ownsRow W.heap.size 24 4 v' (l ++ m).length (ilist (l ++ m)) ∧ Below W.heap.size W w' := by
  have hflat : flatI [(v, l), (v2, m)] = l ++ m := by simp [flatI]
  have hr : Reads1 W W.heap.size (.slice (some ⟨g, 0, none⟩) 2 2) ([(v, l), (v2, m)].map fun p => p.1) := by
    refine ⟨_, _, rfl, fun _ => ⟨g, 0, rfl, World.block_lt_of_cell? W _ hg, fun j u hu => ?_⟩⟩
    match j, hu with
    | 0, hu => simp at hu; subst hu; exact hg
    | 1, hu => simp at hu; subst hu; exact hg2
    | j + 2, hu => simp at hu
  have hc := copied_any _ [(v, l), (v2, m)] W hr (by intro p hp; simp at hp; rcases hp with rfl | rfl; exact h; exact h2) (by rw [hflat]; exact hl) (by simp) (by rw [hflat]; exact hz)
  rw [hflat] at hc
  exact hc

set_option maxRecDepth 100000 in
set_option maxHeartbeats 1000000 in
theorem del_any (v : Value) (l : List Itm) (k : ByteArray) (w : World) (hr : ReadsIt w w.heap.size v l) (hrise : Rise l) (hl : l.length ≤ 100000) (hz : ∀ y ∈ l, y.key.size ≤ 281474976710656 ∧ y.val.size ≤ 281474976710656) :
    Calls Tryz.prog 22 #[v, .string k] w fun e w' => ∃ v', e = .returned v' ∧ w'.ownsRow w.heap.size 24 4 v' (delL l k).length (ilist (delL l k)) ∧ Below w.heap.size w w' := by
  obtain ⟨A, c, rfl⟩ := hr.form
  have hF := find_any (.slice A l.length c) l k w hr hrise (by omega)
  have hc1 : l.length ≤ c := by obtain ⟨A', c', hv, hc, _⟩ := hr; cases hv; exact hc
  cases hat : isAt l k
  · rw [hat] at hF
    have HC := Lib.hid (fun W g (hb : Below w.heap.size w W) hg => copy_one (W := W) (g := g) (v := .slice A l.length c) (l := l) hg (hr.grow hb hb.size) (by omega) hz)
    have e1 : delL l k = l := delL_none hat
    rw [e1]
    generalize hn : l.length = n at *
    generalize lb l k = i at *
    have HN := Lib.hid hn
    clear hn hr hz hrise e1
    go_enter Tryz.func22, Tryz.ntmps22
    go_wp2_with fail
    refine hF.mono ?_
    rintro e w1 ⟨rfl, hb1⟩
    clear hF
    go_wp2_with fail
    refine (HC.out _ _ (hb1.alloc hb1.size _) ?_).mono ?_
    · go_simp
    rintro e w2 ⟨v2, rfl, hown, hb2⟩
    go_wp2_with fail
    go_ret
    exact ⟨v2, rfl, row_lower hown (by have := hb1.size; simp; omega), (hb1.alloc hb1.size _).trans (hb2.mono (by have := hb1.size; simp; omega))⟩
  · rw [hat] at hF
    obtain ⟨hlt, hkey⟩ := isAt_iff.1 hat
    have h1 := reads_high hr (k := lb l k) (by omega)
    have h2 := reads_low hr (k := lb l k + 1) (by omega)
    have hrH := run_high A l.length c (lb l k) (by omega)
    have hrL0 := run_low A l.length c (lb l k + 1) (by omega)
    have e1 : delL l k = l.take (lb l k) ++ l.drop (lb l k + 1) := by unfold delL; rw [if_pos hat]
    rw [e1]
    obtain ⟨A2, hA2⟩ : ∃ A2, lowV A l.length c (lb l k + 1) = .slice A2 (l.length - (lb l k + 1)) (c - (lb l k + 1)) := ⟨_, rfl⟩
    simp only [hA2] at hrL0 h2
    have hrL : ∀ W, (Instr.slice 22 (.slice A l.length c) (some (.int .i64 ((lb l k : Int) + 1))) none none).run Tryz.prog W = .ok (.slice A2 (l.length - (lb l k + 1)) (c - (lb l k + 1))) W := fun W => by have := hrL0 W; rwa [show (((lb l k + 1 : Nat)) : Int) = (lb l k : Int) + 1 by omega] at this
    have hlb100 : (lb l k : Int) ≤ 100000 := by omega
    have HC := Lib.hid (fun W g (hb : Below w.heap.size w W) hg hg2 => copy_two (W := W) (g := g) hg hg2 (h1.grow hb hb.size) (h2.grow hb hb.size) (by simp; omega) (by
      intro y hy
      refine hz y ?_
      rcases List.mem_append.1 hy with hy | hy
      · exact List.mem_of_mem_take hy
      · exact List.mem_of_mem_drop hy))
    clear h1 h2 hrL0 hA2 e1 hat hkey
    generalize l.take (lb l k) ++ l.drop (lb l k + 1) = D at *
    generalize hn : l.length = n at *
    generalize hi : lb l k = i at *
    have HN := Lib.hid (And.intro hn hi)
    have hwi : IntKind.i64.wrap ((i : Int) + 1) = (i : Int) + 1 := by rw [IntKind.wrap_i64]; omega
    clear hn hi hr hz hrise
    go_enter Tryz.func22, Tryz.ntmps22
    go_wp2_with fail
    refine hF.mono ?_
    rintro e w1 ⟨rfl, hb1⟩
    clear hF
    go_wp2_with fail
    go_region_held3 (fun w' => True) (trivial) (first
      | (go_at_call 71; ((with_reducible refine (HC.out _ _ ?_ ?_ ?_).mono ?_)); (first | exact ((hb1.alloc hb1.size _)).drew | exact (hb1.alloc hb1.size _)); (go_simp); (go_simp); rintro e w4 ⟨v4, rfl, hown4, hb4⟩))
    go_wp2_with fail
    go_ret
    exact ⟨v4, rfl, row_lower hown4 (by have := hb1.size; simp [World.drew]; omega), (hb1.alloc hb1.size _).drew.trans (hb4.mono (by have := hb1.size; simp [World.drew]; omega))⟩

theorem size_one {W : World} {x : Itm} {g : Nat} (h0 : W.cell? ⟨g, 0, none⟩ = some (.string x.key)) (h1 : W.cell? ⟨g, 1, none⟩ = some (.string x.val)) (h2 : W.cell? ⟨g, 2, none⟩ = some (.int .i64 x.over)) (h3 : W.cell? ⟨g, 3, none⟩ = some (.int .i64 x.size)) (hx : x.ok) (hs : (itemB x).length ≤ 4611686018427387904) :
    Calls Tryz.prog 13 #[.slice (some ⟨g, 0, none⟩) 1 1] W fun e w' => e = .returned (.int .i64 ((itemB x).length : Nat)) ∧ Below W.heap.size W w' := by
  have hr : ReadsIt W W.heap.size (.slice (some ⟨g, 0, none⟩) 1 1) [x] := by
    refine ⟨_, 1, rfl, Nat.le_refl _, by unfold maxLen; omega, fun e => (by cases e), fun _ => ⟨g, 0, rfl, World.block_lt_of_cell? W _ h0, fun i hi => ?_⟩⟩
    simp at hi
    subst hi
    simp only [Nat.zero_mul, Nat.add_zero, Nat.zero_add, List.getElem_cons_zero]
    exact ⟨h0, h1, h2, h3⟩
  have e1 : sz [x] = (itemB x).length := by simp [sz, leafB]
  have h := size_any _ [x] W hr (by intro y hy; simp at hy; subst hy; exact hx) (by rw [e1]; exact hs)
  rw [e1] at h
  exact h

set_option maxRecDepth 100000 in
set_option maxHeartbeats 1000000 in
theorem half_any (v : Value) (l : List Itm) (w : World) (hr : ReadsIt w w.heap.size v l) (hok : ∀ x ∈ l, x.ok) (hs : sz l ≤ 1000000) (hl : l.length ≤ 100000) :
    Calls Tryz.prog 72 #[v] w fun e w' => e = .returned (.int .i64 (halfL l : Nat)) ∧ Below w.heap.size w w' := by
  have hr0 := hr
  obtain ⟨A, c, rfl, hlc, hcm, _, hc⟩ := hr
  have hl63 : l.length ≤ 9223372036854775807 := by unfold maxLen at hcm; omega
  by_cases h2 : l.length < 2
  · have e1 : halfL l = l.length := by unfold halfL; rw [if_pos h2]
    rw [e1]
    generalize l.length = n at *
    clear hr0 hc hok hs
    go_enter Tryz.func72, Tryz.ntmps72
    go_wp2_with fail
    go_ret
    exact ⟨rfl, Below.refl _ _⟩
  · have e1 : halfL l = (bestTo l (l.length - 1)).2 := by unfold halfL; rw [if_neg h2]
    have hS := size_any (.slice A l.length c) l w hr0 hok (by omega)
    rw [e1]
    obtain ⟨N, hN⟩ : ∃ N, l.length = N + 1 := ⟨l.length - 1, by omega⟩
    have hrH := run_high A l.length c N (by omega)
    obtain ⟨T, hT⟩ : ∃ T, sz l = T := ⟨_, rfl⟩
    have HH := Lib.hid (And.intro hc (And.intro hok (And.intro hT hN)))
    rw [hT] at hS hs
    rw [hN] at hS hrH ⊢
    rw [Nat.add_sub_cancel]
    have hN1 : (1 : Int) ≤ N := by omega
    have hN63 : (N : Int) ≤ 99999 := by omega
    have hNc : (N : Int) + 1 ≤ c := by omega
    have hT1 : (T : Int) ≤ 1000000 := by omega
    clear hr0 hc hok e1 h2 hlc hcm hl63 hT hs hl
    have hN := Lib.hid hN
    go_enter Tryz.func72, Tryz.ntmps72
    go_wp2_with fail
    refine hS.mono ?_
    rintro e w1 ⟨rfl, hb1⟩
    clear hS
    go_wp2_with fail
    go_loopw [4, 5, 6, 25] (fun av lv bv iv wr => ∃ k : Nat, k ≤ N ∧ iv = .int .i64 k ∧ av = .int .i64 (sz (l.take k) : Nat) ∧ lv = .int .i64 ((bestTo l k).1 : Nat) ∧ bv = .int .i64 ((bestTo l k).2 : Nat) ∧ Below w.heap.size w wr) (fun _ _ _ iv _ => N - (RowKit.intOf iv).toNat)
    case atStart => exact ⟨0, Nat.zero_le _, rfl, rfl, by simp only [bestTo, HH.out.2.2.1]; go_num, rfl, hb1⟩
    case round =>
      obtain ⟨k, hk, rfl, rfl, rfl, rfl, hbl⟩ := hrel
      have hbs := hbl.size
      by_cases hlt : k < N
      · obtain ⟨hc, hok, hT, hN'⟩ := HH.out
        have hkl : k < l.length := by omega
        obtain ⟨b, off, rfl, hbb, hcell⟩ := hc (by omega)
        obtain ⟨c0, c1, c2, c3⟩ := (hcell.below hbl hbb) k hkl
        have hx := hok l[k] (by simp)
        have hts := sz_take l (k + 1)
        have HS : Hid (sz (l.take (k + 1)) = sz (l.take k) + (itemB l[k]).length) := Lib.hid (by rw [take_snoc1 l k hkl, sz_snoc])
        have hgr : grOf l (k + 1) = max (sz (l.take (k + 1))) (T - sz (l.take (k + 1))) := by unfold grOf; rw [hT]
        have hbt := bestTo_le l k
        rw [hT] at hts hbt
        have hnx : bestTo l (k + 1) = if grOf l (k + 1) < (bestTo l k).1 then (grOf l (k + 1), k + 1) else bestTo l k := rfl
        have hb2 : (bestTo l k).2 ≤ k := hbt.2
        have hb1' : (bestTo l k).1 ≤ T + 1 := hbt.1
        rw [HS.out] at hts hgr
        generalize l[k] = x at *
        have hsz1 : sz (l.take k) + (itemB x).length ≤ T := hts.1
        have HZ := Lib.hid (fun W g h0 h1 h2 h3 => size_one (W := W) (x := x) (g := g) h0 h1 h2 h3 hx (by omega))
        generalize sz (l.take k) = a at *
        generalize (itemB x).length = m at *
        generalize hB1 : (bestTo l k).1 = L1 at *
        generalize hB2 : (bestTo l k).2 = L2 at *
        have HG := Lib.hid (And.intro hgr (And.intro hnx (And.intro hB1 (And.intro hB2 hbl))))
        have hk0 : (0 : Int) ≤ k := by omega
        have hkN : (k : Int) < N := by omega
        have ha : (a : Int) + m ≤ T := by omega
        clear hgr hnx hB1 hB2 hbl hts hbt hx hok hc hcell hkl hN' hT
        go_wp2_with fail
        refine (HZ.out _ _ ?_ ?_ ?_ ?_).mono ?_
        · go_simp
        · go_simp
        · go_simp
        · go_simp
        rintro e w2 ⟨rfl, hb2'⟩
        have H2 := Lib.hid (show Below w.heap.size w w2 from HG.out.2.2.2.2.trans ((((Below.refl _ _).alloc (Nat.le_refl _) _).alloc (by simp) _ |>.trans (hb2'.mono (by simp; omega))).mono hbs))
        clear hb2' c0 c1 c2 c3
        go_wp2_with fail
        · rename_i hlt2
          obtain ⟨g1, g2, g3, g4, g5⟩ := HG.out
          rw [g1, if_pos (by omega)] at g2
          refine ⟨⟨k + 1, by omega, by go_num, by rw [HS.out]; go_num, ?_, ?_, H2.out⟩, by simp [RowKit.intOf]; omega⟩
          · rw [g2]; simp only; congr 1; omega
          · rw [g2]; simp
        · rename_i hlt2
          obtain ⟨g1, g2, g3, g4, g5⟩ := HG.out
          rw [g1, if_neg (by omega)] at g2
          refine ⟨⟨k + 1, by omega, by go_num, by rw [HS.out]; go_num, ?_, ?_, H2.out⟩, by simp [RowKit.intOf]; omega⟩
          · rw [g2, g3]
          · rw [g2, g4]
      · obtain rfl : k = N := by omega
        go_wp2_with fail
        go_ret
        exact ⟨rfl, hbl⟩

set_option maxRecDepth 100000 in
set_option maxHeartbeats 1000000 in
theorem split_any (v : Value) (l : List Itm) (w : World) (hr : ReadsIt w w.heap.size v l) (hok : ∀ x ∈ l, x.ok) (hs : sz l ≤ 1000000) (hl : l.length ≤ 100000) (hz : ∀ y ∈ l, y.key.size ≤ 281474976710656 ∧ y.val.size ≤ 281474976710656) :
    Calls Tryz.prog 23 #[v] w fun e w' => ∃ v1 v2, e = .returned (.tuple #[v1, v2]) ∧ w'.ownsRow w.heap.size 24 4 v1 (l.take (halfL l)).length (ilist (l.take (halfL l))) ∧ w'.ownsRow w.heap.size 24 4 v2 (l.drop (halfL l)).length (ilist (l.drop (halfL l))) ∧
      (∀ g, v1.ownBlock = some g → v2.ownBlock ≠ some g) ∧ Below w.heap.size w w' := by
  have hH := half_any v l w hr hok hs hl
  have hhl := half_le l
  obtain ⟨A, c, rfl⟩ := hr.form
  have hc1 : l.length ≤ c := by obtain ⟨A', c', hv, hc, _⟩ := hr; cases hv; exact hc
  have h1 := reads_high hr hhl
  have h2 := reads_low hr hhl
  have hrH := run_high A l.length c (halfL l) (by omega)
  have hrL := run_low A l.length c (halfL l) hhl
  obtain ⟨A2, hA2⟩ : ∃ A2, lowV A l.length c (halfL l) = .slice A2 (l.length - halfL l) (c - halfL l) := ⟨_, rfl⟩
  simp only [hA2] at hrL h2
  have HC1 := Lib.hid (fun W g hb hg => copy_from (w := w) (W := W) (g := g) hb hg h1 (by simp; omega) (fun y hy => hz y (List.mem_of_mem_take hy)))
  have HC2 := Lib.hid (fun W g hb hg => copy_from (w := w) (W := W) (g := g) hb hg h2 (by simp; omega) (fun y hy => hz y (List.mem_of_mem_drop hy)))
  clear h1 h2 hA2 hr hz hok hs
  have hhl' : (halfL l : Int) ≤ 100000 := by omega
  generalize l.take (halfL l) = L1 at *
  generalize l.drop (halfL l) = L2 at *
  generalize halfL l = i at *
  generalize l.length = n at *
  go_enter Tryz.func23, Tryz.ntmps23
  go_wp2_with fail
  refine hH.mono ?_
  rintro e w1 ⟨rfl, hb1⟩
  clear hH
  go_wp2_with fail
  have hb1d := hb1.drew
  go_region_held3 (fun w' => Below w.heap.size w w') (first | assumption | exact Below.drew (by assumption) | exact Below.alloc (by assumption) (Below.size (w := w) (by assumption)) _ | exact Below.drew (Below.alloc (by assumption) (Below.size (w := w) (by assumption)) _)) (first
    | (go_at_call 71; ((with_reducible refine (HC1.out _ _ (by first | assumption | exact Below.drew (by assumption) | exact Below.alloc (by assumption) (Below.size (w := w) (by assumption)) _ | exact Below.drew (Below.alloc (by assumption) (Below.size (w := w) (by assumption)) _)) ?_).mono ?_)); (go_simp); rintro e w4 ⟨v4, rfl, hown4, hb4, hb4'⟩; have q4 := bcell hb4)
    | (go_at_call 71; ((with_reducible refine (HC2.out _ _ (by first | assumption | exact Below.drew (by assumption) | exact Below.alloc (by assumption) (Below.size (w := w) (by assumption)) _ | exact Below.drew (Below.alloc (by assumption) (Below.size (w := w) (by assumption)) _)) ?_).mono ?_)); (go_simp); rintro e w5 ⟨v5, rfl, hown5, hb5, hb5'⟩))
  all_goals
    have h45 : Below w4.heap.size w4 w5 := by
      first
        | exact hb5
        | exact ((Below.refl _ _).alloc (Nat.le_refl _) _).trans (hb5.mono (by simp))
        | exact ((Below.refl _ _).alloc (Nat.le_refl _) _).drew.trans (hb5.mono (by simp [World.drew]))
        | exact (Below.refl _ _).drew.trans hb5
    have k4 := row_kept (F := []) hown4 (Kept.of_below h45) (fun _ _ h => by simp at h)
    have k5 : ∀ g, v4.ownBlock = some g → v5.ownBlock ≠ some g := by
      intro g hg hg2
      have h6 := (hown4.lt g hg).2
      have h7 := (hown5.lt g hg2).1
      first | omega | (simp [World.drew] at h7; omega)
    have hs1 := hb1.size
    have hs4 := hb4'.size
    have HF := Lib.hid (And.intro (row_lower k4 (base' := w.heap.size) (by first | omega | (simp [World.drew]; omega))) (And.intro (row_lower hown5 (base' := w.heap.size) (by first | omega | (simp [World.drew]; omega))) (And.intro k5 hb5')))
    clear q4 k4 k5 h45 hown4 hown5 hb4 hb4' hb5 hb5'
    go_wp2_with fail
    go_ret2
    exact ⟨v4, v5, rfl, HF.out.1, HF.out.2.1, HF.out.2.2.1, HF.out.2.2.2⟩
end Go.Proofs.YtpfifmjcmpankaaGreat
