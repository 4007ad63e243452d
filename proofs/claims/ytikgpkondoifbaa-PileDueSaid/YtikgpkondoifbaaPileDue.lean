/-
  PileDue: of every numbers put as times into a line, those that are not later than now come by their times, of one time as they were put, each as it was put, and then none: as many as are due; for every []int and int. Conditions: none but those of the given statement.
-/
import Derived.Test.YtikgpkondoifbaaP9
import Derived.Test.YtikgpkondoifbaaFrameS
namespace Go.Proofs.Ytikgpkondoifbaa.pileDue
open Go.ChangeShapes Go.WideShapes Go.ChangeAt Go.RowKit Go.Sort

set_option maxRecDepth 1000000 in
theorem walk_out (w : World) (v0 : Value) (l0 : List Int) (r0 : Reads1 w w.heap.size v0 (l0.map (.int .i64))) (now : Int) (h0 : l0.length ≤ 9223372036854775807) (h : 100 < l0.length) :
    Calls Try.prog 5 #[v0, .int .i64 now] w fun e w' => e = .returned (.bool true) ∧ Below w.heap.size w w' := by
  obtain ⟨A0, c0, rfl⟩ := r0.form
  clear r0
  generalize l0.length = n0 at *
  have hb : decide ((100 : Int) < (n0 : Int)) = true := by simp; omega
  clear h
  go_enter Try.func5, Try.ntmps5
  go_wp2_with fail
  refine (alive_any _).mono ?_
  rintro e w' ⟨rfl, hb⟩
  go_wp2_with fail
  go_ret
  exact ⟨rfl, hb⟩

/-- What was put: each time with its number, and its place. -/
def mkd (l : List Int) : List Due := l.zipIdx.map fun t => (t.1, ((t.2 + 1 : Nat) : Int), ((t.2 : Nat) : Int))
theorem mkd_snoc (l : List Int) (x : Int) : mkd (l ++ [x]) = mkd l ++ [(x, ((l.length + 1 : Nat) : Int), (l.length : Int))] := by
  unfold mkd
  rw [List.zipIdx_append]
  simp
theorem length_mkd (l : List Int) : (mkd l).length = l.length := by simp [mkd]
theorem mem_mkd {l : List Int} {d : Due} (h : d ∈ mkd l) : ∃ i, ∃ h : i < l.length, d = (l[i], ((i + 1 : Nat) : Int), (i : Int)) := by
  unfold mkd at h
  obtain ⟨t, ht, rfl⟩ := List.mem_map.1 h
  obtain ⟨t1, t2⟩ := t
  have h1 := List.mem_zipIdx ht
  have hlt : t2 < l.length := by omega
  have e : t1 = l[t2] := by simpa using h1.2.2
  exact ⟨t2, hlt, by simp [e]⟩
theorem distinct_mkd (l : List Int) : Distinct (mkd l) := by
  unfold Distinct mkd
  rw [List.map_map]
  have : (fun d : Due => d.2.1) ∘ (fun t : Int × Nat => ((t.1, ((t.2 + 1 : Nat) : Int), ((t.2 : Nat) : Int)) : Due)) = (fun n : Nat => ((n + 1 : Nat) : Int)) ∘ Prod.snd := by
    funext t
    rfl
  rw [this, ← List.map_map, List.zipIdx_map_snd]
  refine List.Pairwise.map _ (fun a b hab => ?_) (List.nodup_range' 1 (by omega))
  simp
  omega

def dueN (now : Int) (m : List Due) : Nat := m.countP fun d => decide (d.1 ≤ now)
def cnt (now : Int) (l : List Int) : Nat := l.countP fun t => decide (t ≤ now)
theorem dueN_mkd (now : Int) (l : List Int) : dueN now (mkd l) = cnt now l := by
  unfold dueN cnt mkd
  rw [List.countP_map]
  have : ((fun d : Due => decide (d.1 ≤ now)) ∘ fun t : Int × Nat => ((t.1, ((t.2 + 1 : Nat) : Int), ((t.2 : Nat) : Int)) : Due)) = (fun t : Int => decide (t ≤ now)) ∘ Prod.fst := by
    funext t
    rfl
  rw [this, ← List.countP_map, List.zipIdx_map_fst]
theorem dueN_none {now : Int} {x : Due} {s : List Due} (hm : ∀ y ∈ s, ltDue x y = true) (h : now < x.1) : dueN now (x :: s) = 0 := by
  unfold dueN
  rw [List.countP_eq_zero]
  intro y hy
  rcases List.mem_cons.1 hy with rfl | hy
  · simpa using h
  · have := hm y hy
    simp only [ltDue, decide_eq_true_eq] at this
    simp
    omega

/-- Where the second loop stands: what is left; it is greater than the last one that came. -/
def At2 (base : Nat) (w1 : World) (q : Nat) (l : List Int) (now : Int) (at_ sq : Value) (k : Nat) (m : List Due) (wr : World) : Prop :=
  Lin base wr q l.length m ∧ Below base w1 wr ∧ Distinct m ∧ (∀ d ∈ m, d ∈ mkd l) ∧ m.length + k = l.length ∧ dueN now m + k = cnt now l ∧
    ((k = 0 ∧ at_ = .int .i64 0 ∧ sq = .int .i64 0) ∨ (0 < k ∧ ∃ a b : Int, at_ = .int .i64 a ∧ sq = .int .i64 b ∧ ∀ d ∈ m, ltDue (a, b, 0) d = true))

set_option maxRecDepth 1000000 in
set_option maxHeartbeats 2000000 in
theorem walk_whole (w : World) (v0 : Value) (l0 : List Int) (r0 : Reads1 w w.heap.size v0 (l0.map (.int .i64))) (now : Int) (h0 : l0.length ≤ 100) :
    Calls Try.prog 5 #[v0, .int .i64 now] w fun e w' => e = .returned (.bool true) ∧ Below w.heap.size w w' := by
  obtain ⟨A0, c0, rfl⟩ := r0.form
  have R0 := Lib.hid r0
  obtain ⟨n0, hn0⟩ : ∃ n, l0.length = n := ⟨_, rfl⟩
  have HN := Lib.hid hn0
  rw [hn0] at h0
  rw [hn0]
  clear r0 hn0
  have hb : decide ((100 : Int) < (n0 : Int)) = false := by simp; omega
  go_enter Try.func5, Try.ntmps5
  go_wp2_with fail
  refine (lin_new _).mono ?_
  rintro e w1 ⟨rfl, hl, hb1⟩
  have H1 := Lib.hid (And.intro hl hb1)
  clear hl hb1
  go_wp2_with fail
  go_loopg [6, 7] n0 (fun g du i wr => ∃ k : Nat, i = .int .i64 k ∧ k + g = n0 ∧ du = .int .i64 (cnt now (l0.take k) : Nat) ∧ Lin w.heap.size wr w.heap.size k (mkd (l0.take k)) ∧ Below w.heap.size w wr)
  case atStart => exact ⟨0, rfl, by omega, by simp [cnt], by simpa [mkd] using H1.out.1, H1.out.2⟩
  case round =>
    clear H1 w1
    obtain ⟨k, rfl, hkg, rfl, hl, hbw⟩ := hrel
    by_cases hlt : k < n0
    · have hn0 := HN.out
      obtain ⟨b, off, c, hv, hbl, hck⟩ := R0.out.at hbw k (by omega)
      simp only [Value.slice.injEq] at hv
      obtain ⟨rfl, _, rfl⟩ := hv
      have hlk : (l0.take k).length = k := by simp; omega
      have e1 : l0.take (k + 1) = l0.take k ++ [l0[k]] := by rw [List.take_succ_eq_append_getElem]
      have e2 : mkd (l0.take (k + 1)) = mkd (l0.take k) ++ [(l0[k], ((k + 1 : Nat) : Int), (k : Int))] := by rw [e1, mkd_snoc, hlk]
      have e3 : cnt now (l0.take (k + 1)) = cnt now (l0.take k) + if l0[k] ≤ now then 1 else 0 := by
        rw [e1]
        unfold cnt
        rw [List.countP_append, List.countP_singleton]
        simp
      have hcl : cnt now (l0.take k) ≤ k := by
        have : cnt now (l0.take k) ≤ (l0.take k).length := List.countP_le_length
        omega
      have hpu := lin_put l0[k] k hl hbw.size (by rw [length_mkd]; omega) (by omega)
      obtain ⟨z, hz⟩ : ∃ z : Nat, (k : Int) + 1 = (z : Int) ∧ z = k + 1 := ⟨k + 1, by omega, rfl⟩
      have hck2 : ∀ w', Below w.heap.size wr w' → w'.cell? ⟨b, off + k, none⟩ = some (.int .i64 l0[k]) := fun w' hb' => (hb'.cell (p := ⟨b, off + k, none⟩) hbl).trans hck
      rw [← hz.2] at hpu
      have HE := Lib.hid (And.intro e2 (And.intro e3 (And.intro hz.2 hck2)))
      generalize hx : l0[k] = x at *
      generalize cnt now (l0.take k) = cc at *
      have hlt1 : (k : Int) < n0 := by omega
      have hz1 := hz.1
      have hzz : ((z : Int) != z) = false := by simp
      have HB := Lib.hid hbw
      have hcc : cc ≤ 200 := by omega
      clear hl hbw e1 e2 e3 hx hn0 hz hck2 hlk hcl
      go_wp2_with fail
      refine hpu.mono ?_
      rintro e w2 ⟨rfl, hp2, hb2⟩
      have hc2 := HE.out.2.2.2 w2 hb2
      have H2 := Lib.hid (And.intro hp2 hb2)
      clear hp2 hb2 hpu hck
      by_cases hle : x ≤ now
      · have hd : decide (x ≤ now) = true := by simpa using hle
        have HL := Lib.hid hle
        clear hle
        go_wp2
        go_roundg (n0 - (k + 1))
        case measure => omega
        case rel =>
          obtain ⟨e2, e3, hz, _⟩ := HE.out
          rw [if_pos HL.out] at e3
          refine ⟨k + 1, by go_num, by omega, by rw [e3]; go_num, ?_, HB.out.trans H2.out.2⟩
          have h3 := H2.out.1
          rw [hz] at h3
          rw [e2]
          exact h3.perm (List.perm_append_singleton _ _).symm
      · have hd : decide (x ≤ now) = false := by simpa using hle
        have HL := Lib.hid hle
        clear hle
        go_wp2
        go_roundg (n0 - (k + 1))
        case measure => omega
        case rel =>
          obtain ⟨e2, e3, hz, _⟩ := HE.out
          rw [if_neg (by have := HL.out; omega)] at e3
          refine ⟨k + 1, by go_num, by omega, by rw [e3]; rfl, ?_, HB.out.trans H2.out.2⟩
          have h3 := H2.out.1
          rw [hz] at h3
          rw [e2]
          exact h3.perm (List.perm_append_singleton _ _).symm
    · obtain rfl : k = n0 := by omega
      have hfull : l0.take k = l0 := List.take_of_length_le (by rw [HN.out]; exact Nat.le_refl _)
      rw [hfull] at hl
      rw [hfull]
      have hst : At2 w.heap.size w w.heap.size l0 now (.int .i64 0) (.int .i64 0) 0 (mkd l0) wr :=
        ⟨by rw [HN.out]; exact hl, hbw, distinct_mkd l0, fun d hd => hd, by rw [length_mkd]; rfl, by rw [dueN_mkd]; rfl, .inl ⟨rfl, rfl, rfl⟩⟩
      have hcl : cnt now l0 ≤ k := by
        have : cnt now l0 ≤ l0.length := List.countP_le_length
        rw [HN.out] at this
        exact this
      obtain ⟨cc, hcc⟩ : ∃ cc, cnt now l0 = cc := ⟨_, rfl⟩
      have HC := Lib.hid hcc
      rw [hcc]
      rw [hcc] at hcl
      have H3 := Lib.hid hst
      clear hst hl hbw hfull hlt hkg hcc
      go_wp2_with fail
      go_loopg [8, 9, 10, 11] k (fun g at_ sq nv i wr => ∃ (j : Nat) (m : List Due), i = .int .i64 j ∧ nv = .int .i64 j ∧ m.length = g ∧ At2 w.heap.size w w.heap.size l0 now at_ sq j m wr)
      case atStart => exact ⟨0, mkd l0, rfl, rfl, by rw [length_mkd]; exact HN.out, H3.out⟩
      case round =>
        clear H3
        obtain ⟨j, m, rfl, rfl, hmg, hl, hbw, hdi, hmem, hlen, hdue, hat⟩ := hrel
        have hjk : j ≤ k := by have := HN.out; omega
        by_cases hex : ∃ x s, m.Perm (x :: s) ∧ (∀ y ∈ s, ltDue x y = true) ∧ Distinct s ∧ x.1 ≤ now
        · obtain ⟨x, s, hp, hm, hds, hxn⟩ := hex
          have htk := lin_take now hl hbw.size hp hm hxn
          obtain ⟨i, hi, hxe⟩ := mem_mkd (hmem x (hp.mem_iff.2 (by simp)))
          have hik : i < k := by rw [HN.out] at hi; exact hi
          obtain ⟨b, off, c, hv, hbl, hck⟩ := R0.out.at hbw i hi
          simp only [Value.slice.injEq] at hv
          obtain ⟨rfl, _, rfl⟩ := hv
          subst hxe
          have hck2 : ∀ w', Below w.heap.size wr w' → w'.cell? ⟨b, off + i, none⟩ = some (.int .i64 l0[i]) := fun w' hb' => (hb'.cell (p := ⟨b, off + i, none⟩) hbl).trans hck
          have hlen2 : s.length + (j + 1) = l0.length := by have := hp.length_eq; simp at this; omega
          have hdue2 : dueN now s + (j + 1) = cnt now l0 := by
            have h1 : dueN now m = dueN now ((l0[i], ((i + 1 : Nat) : Int), (i : Int)) :: s) := hp.countP_eq _
            have h2 : dueN now ((l0[i], ((i + 1 : Nat) : Int), (i : Int)) :: s) = dueN now s + 1 := by
              unfold dueN
              rw [List.countP_cons_of_pos (by simpa using hxn)]
            omega
          have hsm : ∀ d ∈ s, d ∈ mkd l0 := fun d hd => hmem d (hp.mem_iff.2 (by simp [hd]))
          have hcl : cnt now l0 ≤ l0.length := List.countP_le_length
          have hjlt : j < k := by have := HN.out; omega
          have hgn : s.length < gk := by have := hp.length_eq; simp at this; omega
          obtain ⟨z, hz1, hz2⟩ : ∃ z : Nat, (i : Int) + 1 = (z : Int) ∧ z = i + 1 := ⟨i + 1, by omega, rfl⟩
          rw [← hz2] at htk hm
          have hat' : (j = 0 ∧ u8 = Value.int .i64 0 ∧ u9 = Value.int .i64 0) ∨ (0 < j ∧ ∃ a b : Int, u8 = Value.int .i64 a ∧ u9 = Value.int .i64 b ∧ (a < l0[i] ∨ a = l0[i] ∧ b < (z : Int))) := by
            rcases hat with h | ⟨h1, a, b, h2, h3, h4⟩
            · exact .inl h
            · refine .inr ⟨h1, a, b, h2, h3, ?_⟩
              have := h4 (l0[i], ((i + 1 : Nat) : Int), (i : Int)) (hp.mem_iff.2 (List.mem_cons_self ..))
              rw [← hz2] at this
              simpa [ltDue] using this
          have hms : ∀ d ∈ s, ltDue (l0[i], (z : Int), 0) d = true := fun d hd => by
            have := hm d hd
            simpa [ltDue] using this
          have HP := Lib.hid (And.intro hbw (And.intro hds (And.intro hsm (And.intro hlen2 (And.intro hdue2 (And.intro hms hck2))))))
          generalize hlx : l0[i] = x at *
          have hxn' : decide (now < x) = false := by simpa using hxn
          clear hlx hck hck2 hms hsm hds hbw hp hm hl hdi hmem hlen hdue hat hi hdue2 hlen2 hcl hxn hmg hz2
          unfold dval at htk
          simp only at htk
          have hb0 : decide ((i : Int) < 0) = false := by simp
          have hb1 : decide (k ≤ i) = false := by simpa using hik
          have hi0 : (0 : Int) ≤ i := by omega
          have hi1 : (i : Int) < k := by omega
          have hj1 : (j : Int) ≤ k := by omega
          go_wp2_with fail
          refine htk.mono ?_
          rintro e w2 ⟨rfl, hl2, hb2⟩
          have hck := HP.out.2.2.2.2.2.2 w2 hb2
          have hblt : b < w2.heap.size := World.block_lt_of_cell? _ _ hck
          have H2 := Lib.hid (And.intro hl2 hb2)
          clear hl2 hb2 htk
          have hbb := (Below.refl w2.heap.size w2).alloc (Nat.le_refl _) (.cells #[.int .i64 x, .int .i64 z, .int .i64 i] 28)
          have hmd := Has.made w2 28 #[.int .i64 x, .int .i64 z, .int .i64 i]
          have HB := Lib.hid (And.intro hbb hmd)
          clear hbb hmd
          go_wp2_with fail
          obtain ⟨hbb, hmd⟩ := HB.out
          have ck : (w2.alloc (.cells #[.int .i64 x, .int .i64 z, .int .i64 i] 28)).cell? ⟨b, off + i, none⟩ = some (.int .i64 x) := (hbb.cell (p := ⟨b, off + i, none⟩) hblt).trans hck
          have d0 : (w2.alloc (.cells #[.int .i64 x, .int .i64 z, .int .i64 i] 28)).cell? ⟨w2.heap.size, 0, none⟩ = some (.int .i64 x) := hmd.cell 0
          have d1 : (w2.alloc (.cells #[.int .i64 x, .int .i64 z, .int .i64 i] 28)).cell? ⟨w2.heap.size, 1, none⟩ = some (.int .i64 z) := hmd.cell 1
          have d2 : (w2.alloc (.cells #[.int .i64 x, .int .i64 z, .int .i64 i] 28)).cell? ⟨w2.heap.size, 2, none⟩ = some (.int .i64 i) := hmd.cell 2
          have H3 := Lib.hid (And.intro (H2.out.1.below hbb) (HP.out.1.trans (H2.out.2.trans (hbb.mono (Nat.le_trans HP.out.1.size H2.out.2.size)))))
          clear hbb hmd hck HB
          generalize w2.alloc (.cells #[.int .i64 x, .int .i64 z, .int .i64 i] 28) = W at *
          generalize w2.heap.size = B at *
          have hxx : (x != x) = false := by simp
          have hzz : ((z : Int) != z) = false := by simp
          rcases hat' with ⟨rfl, rfl, rfl⟩ | ⟨hj0, a, bb, rfl, rfl, hab⟩
          · have hj2 : decide ((0 : Int) < ((0 : Nat) : Int)) = false := by simp
            go_quiet (fail)
            go_wp2_with fail
            go_quiet (fail)
            go_wp2
            go_roundg s.length
            case measure => omega
            case rel =>
              obtain ⟨hbw, hds, hsm, hlen2, hdue2, hms, _⟩ := HP.out
              exact ⟨0 + 1, s, by go_num, by go_num, rfl, H3.out.1.below (below_drewn _ _ _), H3.out.2.trans (below_drewn _ _ _), hds, hsm, hlen2, hdue2, .inr ⟨by omega, x, z, rfl, rfl, hms⟩⟩
          · have hj2 : decide ((0 : Int) < (j : Int)) = true := by simp; omega
            have hj3 : decide (0 < j) = true := by simpa using hj0
            rcases hab with hab | ⟨rfl, hab⟩
            · have ha1 : decide (x < a) = false := by simp; omega
              have ha2 : (x == a) = false := by simp; omega
              clear hab
              go_quiet (fail)
              go_wp2_with fail
              go_quiet (fail)
              go_wp2
              go_roundg s.length
              case measure => omega
              case rel =>
                obtain ⟨hbw, hds, hsm, hlen2, hdue2, hms, _⟩ := HP.out
                exact ⟨j + 1, s, by go_num, by go_num, rfl, H3.out.1.below (below_drewn _ _ _), H3.out.2.trans (below_drewn _ _ _), hds, hsm, hlen2, hdue2, .inr ⟨by omega, x, z, rfl, rfl, hms⟩⟩
            · have ha1 : decide (a < a) = false := by simp
              have ha2 : (a == a) = true := by simp
              have ha3 : decide ((z : Int) ≤ bb) = false := by simp; omega
              clear hab
              go_quiet (fail)
              go_wp2_with fail
              go_quiet (fail)
              go_wp2
              go_roundg s.length
              case measure => omega
              case rel =>
                obtain ⟨hbw, hds, hsm, hlen2, hdue2, hms, _⟩ := HP.out
                exact ⟨j + 1, s, by go_num, by go_num, rfl, H3.out.1.below (below_drewn _ _ _), H3.out.2.trans (below_drewn _ _ _), hds, hsm, hlen2, hdue2, .inr ⟨by omega, a, z, rfl, rfl, hms⟩⟩
        · have hz : dueN now m = 0 := by
            rcases List.eq_nil_or_concat m with h | ⟨m', y, h⟩
            · rw [h]; rfl
            · obtain ⟨x, s, hp, hm, hds⟩ := due_least m (by rw [h]; simp) hdi
              have hxn : now < x.1 := by
                rcases Int.lt_or_le now x.1 with h1 | h1
                · exact h1
                · exact absurd ⟨x, s, hp, hm, hds, h1⟩ hex
              have h1 : dueN now m = dueN now (x :: s) := hp.countP_eq _
              rw [h1]
              exact dueN_none hm hxn
          have htk : Calls Try.prog 11 #[.pointer (some ⟨w.heap.size, 0, none⟩), .int .i64 now] wr fun e w' => e = .returned (.tuple #[dzero, .bool false]) ∧ Below wr.heap.size wr w' := by
            rcases List.eq_nil_or_concat m with h | ⟨m', y, h⟩
            · rw [h] at hl
              exact lin_none now hl
            · obtain ⟨x, s, hp, hm, hds⟩ := due_least m (by rw [h]; simp) hdi
              have hxn : now < x.1 := by
                rcases Int.lt_or_le now x.1 with h1 | h1
                · exact h1
                · exact absurd ⟨x, s, hp, hm, hds, h1⟩ hex
              exact lin_late now hl hp hm hxn
          have hjc : j = cc := by have := HC.out; omega
          have hml : (m.length : Int) = k - cc := by have := HN.out; omega
          obtain ⟨r, hr⟩ : ∃ r : Nat, m.length = r := ⟨_, rfl⟩
          rw [hr] at hml
          have HP := Lib.hid (And.intro hl (And.intro hbw hr))
          subst hjc
          clear hz hl hbw hdi hmem hlen hdue hat hex hr hmg
          unfold dzero at htk
          have hj1 : (j : Int) ≤ k := by omega
          go_wp2_with fail
          refine htk.mono ?_
          rintro e w2 ⟨rfl, hb2⟩
          obtain ⟨hl, hbw, hr⟩ := HP.out
          have hl2 := hl.below hb2
          have hbw2 := hbw.trans (hb2.mono hbw.size)
          have hbb := (Below.refl w2.heap.size w2).alloc (Nat.le_refl _) (.cells #[.int .i64 0, .int .i64 0, .int .i64 0] 28)
          have H2 := Lib.hid (And.intro (hl2.below hbb) (And.intro (hbw2.trans (hbb.mono hbw2.size)) hr))
          clear hl hbw hr hl2 hbw2 hbb hb2 htk HP
          go_wp2_with fail
          refine (alive_any _).mono ?_
          rintro e w3 ⟨rfl, hb3⟩
          obtain ⟨hl, hbw, hr⟩ := H2.out
          have hll := lin_len (hl.below hb3)
          rw [hr] at hll
          have HB := Lib.hid (hbw.trans (hb3.mono hbw.size))
          have hrr : ((r : Int) == (k : Int) - (j : Int)) = true := by simp; omega
          clear hl hbw hr hb3 H2
          go_wp2_with fail
          refine hll.mono ?_
          rintro e w4 ⟨rfl, rfl⟩
          clear hll
          go_wp2
          go_ret
          exact ⟨rfl, HB.out⟩

theorem walk (w : World) (v0 : Value) (l0 : List Int) (r0 : Reads1 w w.heap.size v0 (l0.map (.int .i64))) (_i0 : ∀ x ∈ l0, IsInt x) (m0 : l0.length ≤ 9223372036854775807) (now : Int) (_hn : IsInt now) :
    Calls Try.prog 5 #[v0, .int .i64 now] w fun e w' => e = .returned (.bool true) ∧ Below w.heap.size w w' := by
  by_cases h : 100 < l0.length
  · exact walk_out w v0 l0 r0 now m0 h
  · exact walk_whole w v0 l0 r0 now (by omega)

set_option maxRecDepth 100000 in
theorem lifted (os : Os) (started : os.Started) (H : Type) (enc : TypeId × Value → H) :
    ReturnsInHanded {} Try.checked os 5 .any (Rows.pileDueSpec.pre6 enc Try.prog Try.f5 Rows.pileDueRow.domain false) (Rows.pileDueSpec.post enc Try.prog Try.f5 false true false false) := by
  refine returnsInHanded_of_change (C := Try.checked) own started (by kernel_rfl) Try.func5
    (ChangeSpec.witness6 (enc := enc) (C := Try.checked) false ⟨#[], #[.slice none 0 0, .int .i64 0], []⟩ 8 (by kernel_rfl) (by kernel_rfl) (by kernel_rfl) (by kernel_rfl)) ?_
  intro W base args ds gs before hval0 hW hcnd _
  have hval : ∀ (j : Nat) t v, Try.f5.params[j]? = some t → args[j]? = some v → Value.okWide Try.prog W .any base t v := hval0
  have hW' := hW
  obtain ⟨p, q, hA0, hV, rfl, hfz, hnd⟩ := hW
  have hA : DataW.TrodAll enc Try.prog W 0 (fun _ => true) true Try.f5.params.toList args.toList ds p := hA0
  rw [Try.params5] at hA hval
  obtain ⟨v0, vs0, d0, ds0, p0, q0, hargs, rfl, rfl, h0, r00⟩ := trodAll_cons hA
  obtain ⟨v1, vs1, d1, ds1, p1, q1, rfl, rfl, rfl, h1, r01⟩ := trodAll_cons r00
  obtain ⟨rfl, rfl, rfl⟩ := trodAll_nil r01
  obtain rfl : args = #[v0, v1] := by cases args; simp_all
  obtain ⟨rfl, rfl⟩ := trodVars_none hV
  obtain ⟨l0, r0, i0, m0⟩ := reads_ints (hval 0 34 v0 rfl rfl) h0
  obtain ⟨n1, rfl, rfl, rfl, w1⟩ := open_int Try.underlying3 (hval 1 3 v1 rfl rfl) h1
  clear hA0 hval0
  refine (walk W v0 l0 r0 i0 m0 n1 (isInt_of_wf w1)).mono fun e W' ⟨he, hb⟩ => ?_
  subst he
  exact ⟨_, rfl, law_post hW' rfl rfl (by kernel_rfl) (by kernel_rfl) hb⟩

theorem said : Rows.PileDueSaid :=
  OpenClaim.holds_of_wide 5 Try.f5 rfl rfl rfl rfl rfl rfl rfl ⟨rfl, rfl, rfl, rfl, rfl⟩ rfl rfl rfl rfl rfl (by kernel_rfl) Try.func5 (by kernel_rfl)
    (of_decide_eq_true (by kernel_rfl)) (by unfold Func.isWrapper; first | (rw [if_pos (by decide +kernel)]; kernel_rfl) | (rw [if_neg (by decide +kernel)]; exact ⟨rfl, rfl⟩))
    (fun os started H enc _ => lifted os started H enc)

end Go.Proofs.Ytikgpkondoifbaa.pileDue
