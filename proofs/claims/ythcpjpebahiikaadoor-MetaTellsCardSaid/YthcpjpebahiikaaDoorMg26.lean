/-
  The document's own answers of chapter 5: GetMeta, Choose.
-/
import Derived.Test.YthcpjpebahiikaaDoorMg20
import Derived.Test.YthcpjpebahiikaaDoorMg21
import Derived.Test.YthcpjpebahiikaaDoorMg25
import Derived.StillTailTactics
namespace Go.Proofs.YthcpjpebahiikaaDoor
open Go.RowKit Go.Lib

set_option maxRecDepth 100000 in
set_option maxHeartbeats 1000000 in
theorem rget_err (g K N E : Int) (b S : ByteArray) (w : World) (hO : ∀ w : World, Calls Tryd.prog 27 #[.int .i64 g, .string b] w fun e w' => e = .returned (.tuple #[.agg #[.int .i64 K, .int .i64 N, .string S], .int .i64 E]) ∧ Below w.heap.size w w') (hE : E ≠ 0) :
    Calls Tryd.prog 10 #[.int .i64 g, .string b] w fun e w' => e = .returned (.tuple #[metaV 0 0 0 0, .int .i64 E]) ∧ Below w.heap.size w w' := by
  have e1 : (E != 0) = true := by simpa using hE
  have HO := Lib.hid hO
  have hH : Has (w.alloc (.cells #[.int .i64 0, .int .i64 0, .int .i64 0, .int .i64 0] 23)) w.heap.size 23 #[.int .i64 0, .int .i64 0, .int .i64 0, .int .i64 0] := Has.made w _ _
  clear hO
  unfold metaV
  go_enter Tryd.func10, Tryd.ntmps10
  go_wp2_with fail
  refine (HO.out _).mono ?_
  rintro e w1 ⟨rfl, hb1⟩
  have hs1 := hb1.size
  simp at hs1
  have hH1 := (hH.below hb1 hH.inside).alloc (.cells #[.int .i64 K, .int .i64 N, .string S] 50)
  obtain ⟨⟨c0, c1, c2, c3⟩, f0, f1, f2, f3⟩ := hH1.four
  have HM := Lib.hid (And.intro (hH1.metaSet 0 0 0 0).four.1 (metaSet_below ((((Below.refl _ _).alloc (Nat.le_refl _) _).trans (hb1.mono (B' := w.heap.size) (by simp))).alloc (by omega) (.cells #[.int .i64 K, .int .i64 N, .string S] 50)) (Nat.le_refl _) 0 0 0 0))
  clear hH hH1 hb1
  go_wp2_with fail
  change bodyPost _ _ _ _ _ (metaSet _ _ _ _ _ _)
  obtain ⟨⟨k0, k1, k2, k3⟩, hb⟩ := HM.out
  clear HM c0 c1 c2 c3 f0 f1 f2 f3
  generalize metaSet _ _ _ _ _ _ = wz at *
  exact bodyPost_ret (v := .tuple #[.agg #[.int .i64 0, .int .i64 0, .int .i64 0, .int .i64 0], .int .i64 E]) (by simp [results, Tryd.results10, go_sem, k0, k1, k2, k3]) rfl ⟨rfl, hb⟩

set_option maxRecDepth 100000 in
set_option maxHeartbeats 3000000 in
theorem rget_form (g K N : Int) (b S : ByteArray) (w : World) (hO : ∀ w : World, Calls Tryd.prog 27 #[.int .i64 g, .string b] w fun e w' => e = .returned (.tuple #[.agg #[.int .i64 K, .int .i64 N, .string S], .int .i64 0]) ∧ Below w.heap.size w w') 
    (h : (K != 1) = true ∨ (K != 1) = false ∧ (N != 0) = true ∨ (K != 1) = false ∧ (N != 0) = false ∧ ((S.size : Int) != 24) = true) :
    Calls Tryd.prog 10 #[.int .i64 g, .string b] w fun e w' => e = .returned (.tuple #[metaV 0 0 0 0, .int .i64 4]) ∧ Below w.heap.size w w' := by
  have HO := Lib.hid hO
  have hH : Has (w.alloc (.cells #[.int .i64 0, .int .i64 0, .int .i64 0, .int .i64 0] 23)) w.heap.size 23 #[.int .i64 0, .int .i64 0, .int .i64 0, .int .i64 0] := Has.made w _ _
  clear hO
  unfold metaV
  rcases h with h | ⟨h, h2⟩ | ⟨h, h2, h3⟩
  all_goals
    go_enter Tryd.func10, Tryd.ntmps10
    go_wp2_with fail
    refine (HO.out _).mono ?_
    rintro e w1 ⟨rfl, hb1⟩
    have hs1 := hb1.size
    simp at hs1
    have hH1 := (hH.below hb1 hH.inside).alloc (.cells #[.int .i64 K, .int .i64 N, .string S] 50)
    obtain ⟨⟨c0, c1, c2, c3⟩, f0, f1, f2, f3⟩ := hH1.four
    have HM := Lib.hid (And.intro (hH1.metaSet 0 0 0 0).four.1 (metaSet_below ((((Below.refl _ _).alloc (Nat.le_refl _) _).trans (hb1.mono (B' := w.heap.size) (by simp))).alloc (by omega) (.cells #[.int .i64 K, .int .i64 N, .string S] 50)) (Nat.le_refl _) 0 0 0 0))
    clear hH hH1 hb1
    go_wp2_with fail
    change bodyPost _ _ _ _ _ (metaSet _ _ _ _ _ _)
    obtain ⟨⟨k0, k1, k2, k3⟩, hb⟩ := HM.out
    clear HM c0 c1 c2 c3 f0 f1 f2 f3
    generalize metaSet _ _ _ _ _ _ = wz at *
    exact bodyPost_ret (v := .tuple #[.agg #[.int .i64 0, .int .i64 0, .int .i64 0, .int .i64 0], .int .i64 4]) (by simp [results, Tryd.results10, go_sem, k0, k1, k2, k3]) rfl ⟨rfl, hb⟩


/-- A list of numbers of the call's own. -/
def Ints5 (w : World) (base : Nat) (v : Value) (l : List Int) : Prop := w.ownsRow base 3 1 v l.length (l.map (Value.int .i64))
theorem Ints5.nil_ (w : World) (base : Nat) : Ints5 w base (.slice none 0 0) [] := World.ownsRow_nil w base 3 1
theorem Tryd.infoInt5 : (Tryd.prog.info? 3).map (fun i => (i.zero, i.size, i.bytes)) = some (some (.int .i64 0), 1, 8) := by kernel_rfl
theorem append_int5 {ops : Array Oper} {rest : List Oper} {o : Oper} {a : Act} {Q : Exit → Act → World → Prop} (hgd : o.guard = none) (s x : Operand)
    (ho : o.op = .call { callee := .builtin .append, args := #[s, x], argTypes := #[51, 51] })
    (base : Nat) (wr : World) (bv : Value) (m : List Int) (hs : a.eval s = bv) (hrow : Ints5 wr base bv m) (y : Int) (hx : a.eval x = .slice (some ⟨wr.heap.size, 0, none⟩) 1 1)
    (hlen : m.length ≤ 1000000) (hbase : base ≤ wr.heap.size)
    (h : ∀ v' w', Ints5 w' base v' (m ++ [y]) → Below base wr w' → wpList Tryd.prog ops Q rest (a.put o.dst v') w') : wpList Tryd.prog ops Q (o :: rest) a (wr.alloc (.cells #[.int .i64 y] 3)) := by
  obtain ⟨i0, hi, hz0, hz1, hz2⟩ := info_parts Tryd.infoInt5
  have hra : Ints5 (wr.alloc (.cells #[.int .i64 y] 3)) base bv m := World.ownsRow.alloc hrow _
  refine wpList_append_own _ hgd s x 51 ho base 3 i0 (.int .i64 0) 1 8 Tryd.underlying51 hi hz0 hz1 hz2 rfl (by decide) _ _ _ hs hra ⟨wr.heap.size, 0, none⟩ 1 1 [.int .i64 y] hx rfl
    (cell_one_new _ _ _) (by intro u hu; simp at hu; subst hu; rfl) (by unfold maxLen; omega) (by omega) (by simp; omega) ?_
  intro v' w' h1 h2 _
  refine h v' w' ?_ (((Below.refl base wr).alloc hbase _).trans ((Below.refl base _).grown h2 (by simp; omega) (fun k hk => (World.ownsRow.lt hra k hk).1)))
  unfold Ints5
  rw [List.length_append, List.map_append]
  exact h1
theorem Ints5.form4 {w : World} {base : Nat} {v : Value} {a b c d : Int} (h : Ints5 w base v [a, b, c, d]) : ∃ g n, v = .slice (some ⟨g, 0, none⟩) 4 n ∧ base ≤ g ∧
    w.cell? ⟨g, 0, none⟩ = some (.int .i64 a) ∧ w.cell? ⟨g, 1, none⟩ = some (.int .i64 b) ∧ w.cell? ⟨g, 2, none⟩ = some (.int .i64 c) ∧ w.cell? ⟨g, 3, none⟩ = some (.int .i64 d) := by
  obtain ⟨A, n, rfl, _, hc⟩ := drow_form h
  obtain ⟨g, rfl, h0⟩ := hc 0 (.int .i64 a) rfl
  have e := World.ownsRow.lt h g rfl
  have k : ∀ j u, [a, b, c, d].map (Value.int .i64) = [a, b, c, d].map (Value.int .i64) → ([a, b, c, d].map (Value.int .i64))[j]? = some u → w.cell? ⟨g, j, none⟩ = some u := fun j u _ hu => by
    obtain ⟨g', e', h'⟩ := hc j u hu
    simp only [Option.some.injEq, Addr.mk.injEq, and_true] at e'
    rwa [← e'] at h'
  exact ⟨g, n, rfl, e.1, h0, k 1 _ rfl rfl, k 2 _ rfl rfl, k 3 _ rfl rfl⟩
theorem Ints5.below {w w' : World} {base : Nat} {v : Value} {l : List Int} (h : Ints5 w base v l) (hb : Below w.heap.size w w') : Ints5 w' base v l := row_kept h (F := []) (Kept.of_below hb) (by simp)
/-- What stays while the numbers are listed. -/
structure RGet (w W0 : World) (q : Nat) (S : ByteArray) (W : World) : Prop where
  ans : Has W w.heap.size 23 #[.int .i64 0, .int .i64 0, .int .i64 0, .int .i64 0]
  body : W.cell? ⟨q, 2, none⟩ = some (.string S)
  inn : q < W0.heap.size ∧ w.heap.size < W0.heap.size ∧ W0.heap.size ≤ W.heap.size
  bel : Below w.heap.size w W
theorem RGet.go {w W0 W W' : World} {q : Nat} {S : ByteArray} (h : RGet w W0 q S W) (hb : Below W0.heap.size W W') : RGet w W0 q S W' := by
  obtain ⟨h1, h2, ⟨h3, h4, h5⟩, h6⟩ := h
  have hq : W.cell? ⟨q, 2, none⟩ = some (.string S) := h2
  exact ⟨h1.below hb (by omega), (Below.cell hb (p := ⟨q, 2, none⟩) h3).trans hq, ⟨h3, h4, by have := hb.size; omega⟩, h6.trans (hb.mono (by omega))⟩
theorem RGet.alloc {w W0 W : World} {q : Nat} {S : ByteArray} (h : RGet w W0 q S W) (o : Obj) : RGet w W0 q S (W.alloc o) := h.go ((Below.refl _ _).alloc h.inn.2.2 _)

set_option maxRecDepth 100000 in
set_option maxHeartbeats 4000000 in
theorem rget_place (g v0 v1 v2 v3 : Int) (b S : ByteArray) (w : World) (hO : ∀ w : World, Calls Tryd.prog 27 #[.int .i64 g, .string b] w fun e w' => e = .returned (.tuple #[.agg #[.int .i64 1, .int .i64 0, .string S], .int .i64 0]) ∧ Below w.heap.size w w')
    (hS : (S.size : Int) = 24)
    (h0 : ∀ w, Calls Tryd.prog 28 #[.string S, .int .i64 0, .int .i64 6] w fun e w' => e = .returned (.tuple #[.int .i64 v0, .int .i64 0]) ∧ w = w') (h1 : ∀ w, Calls Tryd.prog 28 #[.string S, .int .i64 6, .int .i64 6] w fun e w' => e = .returned (.tuple #[.int .i64 v1, .int .i64 0]) ∧ w = w')
    (h2 : ∀ w, Calls Tryd.prog 28 #[.string S, .int .i64 12, .int .i64 6] w fun e w' => e = .returned (.tuple #[.int .i64 v2, .int .i64 0]) ∧ w = w') (h3 : ∀ w, Calls Tryd.prog 28 #[.string S, .int .i64 18, .int .i64 6] w fun e w' => e = .returned (.tuple #[.int .i64 v3, .int .i64 0]) ∧ w = w') (hp : (v0 % 2 != g) = true) :
    Calls Tryd.prog 10 #[.int .i64 g, .string b] w fun e w' => e = .returned (.tuple #[metaV 0 0 0 0, .int .i64 4]) ∧ Below w.heap.size w w' := by
  have HO := Lib.hid hO
  have H0 := Lib.hid h0
  have H1 := Lib.hid h1
  have H2 := Lib.hid h2
  have H3 := Lib.hid h3
  have hH : Has (w.alloc (.cells #[.int .i64 0, .int .i64 0, .int .i64 0, .int .i64 0] 23)) w.heap.size 23 #[.int .i64 0, .int .i64 0, .int .i64 0, .int .i64 0] := Has.made w _ _
  clear hO h0 h1 h2 h3
  unfold metaV
  go_enter Tryd.func10, Tryd.ntmps10
  go_wp2_with fail
  refine (HO.out _).mono ?_
  rintro e w1 ⟨rfl, hb1⟩
  have hs1 := hb1.size
  simp at hs1
  have hR : RGet w (w1.alloc (.cells #[.int .i64 1, .int .i64 0, .string S] 50)) w1.heap.size S (w1.alloc (.cells #[.int .i64 1, .int .i64 0, .string S] 50)) :=
    ⟨(hH.below hb1 hH.inside).alloc _, (Has.made w1 50 #[.int .i64 1, .int .i64 0, .string S]).cell 2, ⟨by simp, by simp; omega, Nat.le_refl _⟩, (((Below.refl _ _).alloc (Nat.le_refl _) _).trans (hb1.mono (B' := w.heap.size) (by simp))).alloc (by omega) _⟩
  have hp : (w1.alloc (.cells #[.int .i64 1, .int .i64 0, .string S] 50)).cell? ⟨w1.heap.size, 0, none⟩ = some (.int .i64 1) := (Has.made w1 50 #[.int .i64 1, .int .i64 0, .string S]).cell 0
  have hp1 : (w1.alloc (.cells #[.int .i64 1, .int .i64 0, .string S] 50)).cell? ⟨w1.heap.size, 1, none⟩ = some (.int .i64 0) := (Has.made w1 50 #[.int .i64 1, .int .i64 0, .string S]).cell 1
  clear hH hb1
  go_upto_region 2 with fail
  change Code.wp _ _ _ _ (w1.alloc (.cells #[.int .i64 1, .int .i64 0, .string S] 50))
  generalize w1.alloc (.cells #[.int .i64 1, .int .i64 0, .string S] 50) = W0 at *
  have hrow0 := Ints5.nil_ W0 W0.heap.size
  have hbody := hR.body
  have HR := Lib.hid hR
  clear hR
  go_wp2_with fail
  refine wp_loop_rounds 5 ?_
  rw [rounds_succ]
  have hz0 := HR.out.inn.2.2
  go_wp2_with (first | (go_at_call 28; (with_reducible refine (H0.out _).mono ?_); rintro e wu ⟨rfl, rfl⟩) | (at_builtin; refine append_int5 rfl _ _ rfl W0.heap.size W0 (.slice none 0 0) [] rfl hrow0 v0 rfl (by simp) hz0 ?_; intro u1 w2 hrow1 hbel))
  have hR := HR.out.go hbel
  clear hbody hrow0 HR hp hp1 hbel
  have hbody := hR.body
  have HR := Lib.hid hR
  clear hR
  go_wp2_with fail
  rw [rounds_succ]
  have hz1 := HR.out.inn.2.2
  go_wp2_with (first | (go_at_call 28; (with_reducible refine (H1.out _).mono ?_); rintro e wu ⟨rfl, rfl⟩) | (at_builtin; refine append_int5 rfl _ _ rfl W0.heap.size w2 (u1) [v0] rfl hrow1 v1 rfl (by simp) hz1 ?_; intro u2 w3 hrow2 hbel))
  have hR := HR.out.go hbel
  clear hbody hrow1 HR hbel
  have hbody := hR.body
  have HR := Lib.hid hR
  clear hR
  go_wp2_with fail
  rw [rounds_succ]
  have hz2 := HR.out.inn.2.2
  go_wp2_with (first | (go_at_call 28; (with_reducible refine (H2.out _).mono ?_); rintro e wu ⟨rfl, rfl⟩) | (at_builtin; refine append_int5 rfl _ _ rfl W0.heap.size w3 (u2) [v0, v1] rfl hrow2 v2 rfl (by simp) hz2 ?_; intro u3 w4 hrow3 hbel))
  have hR := HR.out.go hbel
  clear hbody hrow2 HR hbel
  have hbody := hR.body
  have HR := Lib.hid hR
  clear hR
  go_wp2_with fail
  rw [rounds_succ]
  have hz3 := HR.out.inn.2.2
  go_wp2_with (first | (go_at_call 28; (with_reducible refine (H3.out _).mono ?_); rintro e wu ⟨rfl, rfl⟩) | (at_builtin; refine append_int5 rfl _ _ rfl W0.heap.size w4 (u3) [v0, v1, v2] rfl hrow3 v3 rfl (by simp) hz3 ?_; intro u4 w5 hrow4 hbel))
  have hR := HR.out.go hbel
  clear hbody hrow3 HR hbel
  have hbody := hR.body
  have HR := Lib.hid hR
  clear hR
  go_wp2_with fail
  rw [rounds_succ]
  obtain ⟨gr, n, rfl, hgr, l0, l1, l2, l3⟩ := Ints5.form4 hrow4
  obtain ⟨⟨c0, c1, c2, c3⟩, f0, f1, f2, f3⟩ := HR.out.ans.four
  have hne : w.heap.size ≠ gr := by have := HR.out.inn.2.1; omega
  clear hrow4 hbody
  go_wp2_with (go_at_call 8; refine (refPlace_any _ _).mono ?_; rintro e wp ⟨rfl, rfl⟩)
  have hA := HR.out.ans
  have hB := HR.out.bel
  clear HR l0 l1 l2 l3
  change bodyPost _ _ _ _ _ (metaSet w5 w.heap.size 0 0 0 0)
  have hm := And.intro (hA.metaSet 0 0 0 0).four.1 (metaSet_below hB (Nat.le_refl _) 0 0 0 0)
  obtain ⟨⟨k0, k1, k2, k3⟩, hb⟩ := hm
  clear hA hB c0 c1 c2 c3 f0 f1 f2 f3
  generalize metaSet _ _ _ _ _ _ = wz at *
  exact bodyPost_ret (v := .tuple #[.agg #[.int .i64 0, .int .i64 0, .int .i64 0, .int .i64 0], .int .i64 4]) (by simp [results, Tryd.results10, go_sem, k0, k1, k2, k3]) rfl ⟨rfl, hb⟩

set_option maxRecDepth 100000 in
set_option maxHeartbeats 4000000 in
theorem rget_ok (g v0 v1 v2 v3 : Int) (b S : ByteArray) (w : World) (hO : ∀ w : World, Calls Tryd.prog 27 #[.int .i64 g, .string b] w fun e w' => e = .returned (.tuple #[.agg #[.int .i64 1, .int .i64 0, .string S], .int .i64 0]) ∧ Below w.heap.size w w')
    (hS : (S.size : Int) = 24)
    (h0 : ∀ w, Calls Tryd.prog 28 #[.string S, .int .i64 0, .int .i64 6] w fun e w' => e = .returned (.tuple #[.int .i64 v0, .int .i64 0]) ∧ w = w') (h1 : ∀ w, Calls Tryd.prog 28 #[.string S, .int .i64 6, .int .i64 6] w fun e w' => e = .returned (.tuple #[.int .i64 v1, .int .i64 0]) ∧ w = w')
    (h2 : ∀ w, Calls Tryd.prog 28 #[.string S, .int .i64 12, .int .i64 6] w fun e w' => e = .returned (.tuple #[.int .i64 v2, .int .i64 0]) ∧ w = w') (h3 : ∀ w, Calls Tryd.prog 28 #[.string S, .int .i64 18, .int .i64 6] w fun e w' => e = .returned (.tuple #[.int .i64 v3, .int .i64 0]) ∧ w = w') (hp : (v0 % 2 != g) = false) :
    Calls Tryd.prog 10 #[.int .i64 g, .string b] w fun e w' => e = .returned (.tuple #[metaV v0 v1 v2 v3, .int .i64 0]) ∧ Below w.heap.size w w' := by
  have HO := Lib.hid hO
  have H0 := Lib.hid h0
  have H1 := Lib.hid h1
  have H2 := Lib.hid h2
  have H3 := Lib.hid h3
  have hH : Has (w.alloc (.cells #[.int .i64 0, .int .i64 0, .int .i64 0, .int .i64 0] 23)) w.heap.size 23 #[.int .i64 0, .int .i64 0, .int .i64 0, .int .i64 0] := Has.made w _ _
  clear hO h0 h1 h2 h3
  unfold metaV
  go_enter Tryd.func10, Tryd.ntmps10
  go_wp2_with fail
  refine (HO.out _).mono ?_
  rintro e w1 ⟨rfl, hb1⟩
  have hs1 := hb1.size
  simp at hs1
  have hR : RGet w (w1.alloc (.cells #[.int .i64 1, .int .i64 0, .string S] 50)) w1.heap.size S (w1.alloc (.cells #[.int .i64 1, .int .i64 0, .string S] 50)) :=
    ⟨(hH.below hb1 hH.inside).alloc _, (Has.made w1 50 #[.int .i64 1, .int .i64 0, .string S]).cell 2, ⟨by simp, by simp; omega, Nat.le_refl _⟩, (((Below.refl _ _).alloc (Nat.le_refl _) _).trans (hb1.mono (B' := w.heap.size) (by simp))).alloc (by omega) _⟩
  have hp : (w1.alloc (.cells #[.int .i64 1, .int .i64 0, .string S] 50)).cell? ⟨w1.heap.size, 0, none⟩ = some (.int .i64 1) := (Has.made w1 50 #[.int .i64 1, .int .i64 0, .string S]).cell 0
  have hp1 : (w1.alloc (.cells #[.int .i64 1, .int .i64 0, .string S] 50)).cell? ⟨w1.heap.size, 1, none⟩ = some (.int .i64 0) := (Has.made w1 50 #[.int .i64 1, .int .i64 0, .string S]).cell 1
  clear hH hb1
  go_upto_region 2 with fail
  change Code.wp _ _ _ _ (w1.alloc (.cells #[.int .i64 1, .int .i64 0, .string S] 50))
  generalize w1.alloc (.cells #[.int .i64 1, .int .i64 0, .string S] 50) = W0 at *
  have hrow0 := Ints5.nil_ W0 W0.heap.size
  have hbody := hR.body
  have HR := Lib.hid hR
  clear hR
  go_wp2_with fail
  refine wp_loop_rounds 5 ?_
  rw [rounds_succ]
  have hz0 := HR.out.inn.2.2
  go_wp2_with (first | (go_at_call 28; (with_reducible refine (H0.out _).mono ?_); rintro e wu ⟨rfl, rfl⟩) | (at_builtin; refine append_int5 rfl _ _ rfl W0.heap.size W0 (.slice none 0 0) [] rfl hrow0 v0 rfl (by simp) hz0 ?_; intro u1 w2 hrow1 hbel))
  have hR := HR.out.go hbel
  clear hbody hrow0 HR hp hp1 hbel
  have hbody := hR.body
  have HR := Lib.hid hR
  clear hR
  go_wp2_with fail
  rw [rounds_succ]
  have hz1 := HR.out.inn.2.2
  go_wp2_with (first | (go_at_call 28; (with_reducible refine (H1.out _).mono ?_); rintro e wu ⟨rfl, rfl⟩) | (at_builtin; refine append_int5 rfl _ _ rfl W0.heap.size w2 (u1) [v0] rfl hrow1 v1 rfl (by simp) hz1 ?_; intro u2 w3 hrow2 hbel))
  have hR := HR.out.go hbel
  clear hbody hrow1 HR hbel
  have hbody := hR.body
  have HR := Lib.hid hR
  clear hR
  go_wp2_with fail
  rw [rounds_succ]
  have hz2 := HR.out.inn.2.2
  go_wp2_with (first | (go_at_call 28; (with_reducible refine (H2.out _).mono ?_); rintro e wu ⟨rfl, rfl⟩) | (at_builtin; refine append_int5 rfl _ _ rfl W0.heap.size w3 (u2) [v0, v1] rfl hrow2 v2 rfl (by simp) hz2 ?_; intro u3 w4 hrow3 hbel))
  have hR := HR.out.go hbel
  clear hbody hrow2 HR hbel
  have hbody := hR.body
  have HR := Lib.hid hR
  clear hR
  go_wp2_with fail
  rw [rounds_succ]
  have hz3 := HR.out.inn.2.2
  go_wp2_with (first | (go_at_call 28; (with_reducible refine (H3.out _).mono ?_); rintro e wu ⟨rfl, rfl⟩) | (at_builtin; refine append_int5 rfl _ _ rfl W0.heap.size w4 (u3) [v0, v1, v2] rfl hrow3 v3 rfl (by simp) hz3 ?_; intro u4 w5 hrow4 hbel))
  have hR := HR.out.go hbel
  clear hbody hrow3 HR hbel
  have hbody := hR.body
  have HR := Lib.hid hR
  clear hR
  go_wp2_with fail
  rw [rounds_succ]
  obtain ⟨gr, n, rfl, hgr, l0, l1, l2, l3⟩ := Ints5.form4 hrow4
  obtain ⟨⟨c0, c1, c2, c3⟩, f0, f1, f2, f3⟩ := HR.out.ans.four
  have hne : w.heap.size ≠ gr := by have := HR.out.inn.2.1; omega
  clear hrow4 hbody
  go_wp2_with (go_at_call 8; refine (refPlace_any _ _).mono ?_; rintro e wp ⟨rfl, rfl⟩)
  go_still_tail 13, (by kernel_rfl)
  change wpList _ _ _ _ _ w5.drew
  have hA := HR.out.ans.drew
  have hB := HR.out.bel.drew
  clear HR c0 c1 c2 c3 f0 f1 f2 f3 l0 l1 l2 l3
  obtain ⟨⟨c0, c1, c2, c3⟩, f0, f1, f2, f3⟩ := hA.four
  generalize w5.drew = w6 at *
  go_wp2
  change bodyPost _ _ _ _ _ (metaSet w6 w.heap.size v0 v1 v2 v3)
  have hm := And.intro (hA.metaSet v0 v1 v2 v3).four.1 (metaSet_below hB (Nat.le_refl _) v0 v1 v2 v3)
  obtain ⟨⟨k0, k1, k2, k3⟩, hb⟩ := hm
  clear hA hB c0 c1 c2 c3 f0 f1 f2 f3
  generalize metaSet _ _ _ _ _ _ = wz at *
  exact bodyPost_ret (v := .tuple #[.agg #[.int .i64 v0, .int .i64 v1, .int .i64 v2, .int .i64 v3], .int .i64 0]) (by simp [results, Tryd.results10, go_sem, k0, k1, k2, k3]) rfl ⟨rfl, hb⟩

/-- What the document's GetMeta tells, of any bytes. -/
theorem refGetMeta_any (g : Int) (b : ByteArray) (w : World) (hgi : IsInt g) : Calls Tryd.prog 10 #[.int .i64 g, .string b] w fun e w' => e = .returned (.tuple #[getV g b.data.toList, .int .i64 (getE g b.data.toList)]) ∧ Below w.heap.size w w' := by
  have hO := fun w => refOpen_any g b w hgi
  have hlen : (⟨(openS g b.data.toList).toArray⟩ : ByteArray).size = (openS g b.data.toList).length := by show Array.size _ = _; simp
  have hdata : (⟨(openS g b.data.toList).toArray⟩ : ByteArray).data.toList = openS g b.data.toList := by simp
  unfold openV at hO
  generalize hS : (⟨(openS g b.data.toList).toArray⟩ : ByteArray) = S at *
  by_cases hE : openE g b.data.toList = 0
  · by_cases h1 : openK g b.data.toList = 1 ∧ openN g b.data.toList = 0 ∧ (openS g b.data.toList).length = 24
    · obtain ⟨hk, hn, hl⟩ := h1
      rw [hE, hk, hn] at hO
      have h0 : ∀ w, Calls Tryd.prog 28 #[.string S, .int .i64 0, .int .i64 6] w fun e w' => e = .returned (.tuple #[.int .i64 (six S.data.toList 0), .int .i64 0]) ∧ w = w' := fun w => refUnfix_ok S 0 6 w (by omega) (by omega) (by omega) (by omega)
      have h1 : ∀ w, Calls Tryd.prog 28 #[.string S, .int .i64 6, .int .i64 6] w fun e w' => e = .returned (.tuple #[.int .i64 (six S.data.toList 1), .int .i64 0]) ∧ w = w' := fun w => refUnfix_ok S 6 6 w (by omega) (by omega) (by omega) (by omega)
      have h2 : ∀ w, Calls Tryd.prog 28 #[.string S, .int .i64 12, .int .i64 6] w fun e w' => e = .returned (.tuple #[.int .i64 (six S.data.toList 2), .int .i64 0]) ∧ w = w' := fun w => refUnfix_ok S 12 6 w (by omega) (by omega) (by omega) (by omega)
      have h3 : ∀ w, Calls Tryd.prog 28 #[.string S, .int .i64 18, .int .i64 6] w fun e w' => e = .returned (.tuple #[.int .i64 (six S.data.toList 3), .int .i64 0]) ∧ w = w' := fun w => refUnfix_ok S 18 6 w (by omega) (by omega) (by omega) (by omega)
      rw [hdata] at h0 h1 h2 h3
      by_cases hp : (six (openS g b.data.toList) 0 : Int) % 2 = g
      · have hg : GetOK g b.data.toList := ⟨hE, hk, hn, hl, hp⟩
        rw [getE_ok hg]
        unfold getV getN
        rw [if_pos hg, if_pos hg, if_pos hg, if_pos hg]
        exact rget_ok g _ _ _ _ b S w hO (by omega) h0 h1 h2 h3 (by simp [hp])
      · have hg : ¬ GetOK g b.data.toList := fun h => hp h.2.2.2.2
        rw [(get_bad hg).1, getE, if_neg (fun h => h hE), if_neg hg]
        exact rget_place g _ _ _ _ b S w hO (by omega) h0 h1 h2 h3 (by simpa using hp)
    · have hg : ¬ GetOK g b.data.toList := fun h => h1 ⟨h.2.1, h.2.2.1, h.2.2.2.1⟩
      rw [(get_bad hg).1, getE, if_neg (fun h => h hE), if_neg hg]
      rw [hE] at hO
      refine rget_form g _ _ b S w hO ?_
      by_cases hk : openK g b.data.toList = 1
      · by_cases hn : openN g b.data.toList = 0
        · exact .inr (.inr ⟨by simp [hk], by simp [hn], by have : ¬ S.size = 24 := fun e => h1 ⟨hk, hn, by omega⟩; simp; omega⟩)
        · exact .inr (.inl ⟨by simp [hk], by simp; omega⟩)
      · exact .inl (by simp; omega)
  · have hg : ¬ GetOK g b.data.toList := fun h => hE h.1
    rw [(get_bad hg).1, getE, if_pos hE]
    exact rget_err g _ _ _ b S w hO hE
end Go.Proofs.YthcpjpebahiikaaDoor
