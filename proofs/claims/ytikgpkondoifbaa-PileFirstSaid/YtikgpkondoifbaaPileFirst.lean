/-
  PileFirst: the first one of a pile, and of a line, is the one that is taken next, and looking takes nothing: for every []int and int. Conditions: none but those of the given statement.
-/
import Derived.Test.YtikgpkondoifbaaP10
import Derived.Test.YtikgpkondoifbaaFrameS
namespace Go.Proofs.Ytikgpkondoifbaa.pileFirst
open Go.ChangeShapes Go.WideShapes Go.ChangeAt Go.RowKit Go.Sort

set_option maxRecDepth 1000000 in
theorem walk_out (w : World) (v0 : Value) (l0 : List Int) (r0 : Reads1 w w.heap.size v0 (l0.map (.int .i64))) (now : Int) (h0 : l0.length ≤ 9223372036854775807) (h : 60 < l0.length) :
    Calls Try.prog 7 #[v0, .int .i64 now] w fun e w' => e = .returned (.bool true) ∧ Below w.heap.size w w' := by
  obtain ⟨A0, c0, rfl⟩ := r0.form
  clear r0
  generalize l0.length = n0 at *
  have hb : decide ((60 : Int) < (n0 : Int)) = true := by simp; omega
  clear h
  go_enter Try.func7, Try.ntmps7
  go_wp2_with fail
  refine (alive_any _).mono ?_
  rintro e w' ⟨rfl, hb⟩
  go_wp2_with fail
  go_ret
  exact ⟨rfl, hb⟩

/-- What the calls answer, in whatever world the two stand side by side. -/
structure Answers (base p q n : Nat) (l : List Int) (m : List Due) (now : Int) (a : Int) (d f : Due) (bx fb : Bool) : Prop where
  first : ∀ w S, Both base w p l q n m S → base ≤ w.heap.size → Calls Try.prog 10 #[.pointer (some ⟨p, 0, none⟩)] w fun e w' => e = .returned (.tuple #[.int .i64 a, .bool bx]) ∧ w' = w
  take : ∀ w S, Both base w p l q n m S → base ≤ w.heap.size → Calls Try.prog 9 #[.pointer (some ⟨p, 0, none⟩)] w fun e w' => e = .returned (.tuple #[.int .i64 a, .bool bx]) ∧ (∃ l', Both base w' p l' q n m S) ∧ Leaves base S w w'
  lfirst : ∀ w S l', Both base w p l' q n m S → base ≤ w.heap.size → Calls Try.prog 12 #[.pointer (some ⟨q, 0, none⟩)] w fun e w' => e = .returned (.tuple #[dval d, .bool bx]) ∧ Both base w' p l' q n m S ∧ Leaves base S w w'
  ltake : ∀ w S l', Both base w p l' q n m S → base ≤ w.heap.size → Calls Try.prog 11 #[.pointer (some ⟨q, 0, none⟩), .int .i64 now] w fun e w' => e = .returned (.tuple #[dval f, .bool fb]) ∧ Leaves base S w w'
  bx : bx = decide (0 < l.length)
  right : (fb = true ∧ f = d ∧ d.1 ≤ now) ∨ (fb = false ∧ l.length = 0) ∨ (fb = false ∧ now < d.1)

theorem leaves_quiet {base : Nat} {w w' : World} {S : List Nat} (hb : Below w.heap.size w w') (h : base ≤ w.heap.size) (hS : ∀ k ∈ S, k < w.heap.size) : Leaves base S w w' := ⟨hb.mono h, hb.size, fun k hk => hb.block k (hS k hk)⟩
theorem leaves_self {base : Nat} {w : World} {S : List Nat} : Leaves base S w w := ⟨Below.refl _ _, Nat.le_refl _, fun _ _ => rfl⟩

theorem answers (base p q : Nat) (l : List Int) (now : Int) : ∃ a d f bx fb, Answers base p q l.length l (mkd l) now a d f bx fb := by
  by_cases hn : l = []
  · subst hn
    refine ⟨0, (0, 0, 0), (0, 0, 0), false, false, fun w S h _ => both_first_none h, fun w S h hb => ?_, fun w S l' h hb => both_lfirst_none h hb, fun w S l' h hb => ?_, by simp, .inr (.inl ⟨rfl, rfl⟩)⟩
    · exact (both_take_none h).mono fun e w' he => by
        obtain ⟨rfl, rfl⟩ := he
        exact ⟨rfl, ⟨_, h⟩, leaves_self⟩
    · exact (both_ltake_none now h hb).mono fun e w' he => ⟨he.1, he.2.2⟩
  · obtain ⟨x, s, hp, hm⟩ := int_least l hn
    have hne : mkd l ≠ [] := by
      intro e
      have := length_mkd l
      rw [e] at this
      exact hn (List.eq_nil_of_length_eq_zero this.symm)
    obtain ⟨d, t, hq, hd, _⟩ := due_least (mkd l) hne (distinct_mkd l)
    have hpos : 0 < l.length := List.length_pos_iff.2 hn
    have hb1 : true = decide (0 < l.length) := by simpa using hpos
    have htk : ∀ w S, Both base w p l q l.length (mkd l) S → base ≤ w.heap.size → Calls Try.prog 9 #[.pointer (some ⟨p, 0, none⟩)] w fun e w' => e = .returned (.tuple #[.int .i64 x, .bool true]) ∧ (∃ l', Both base w' p l' q l.length (mkd l) S) ∧ Leaves base S w w' := fun w S h hb =>
      (both_take h hb hp hm).mono fun e w' he => ⟨he.1, ⟨_, he.2.1⟩, he.2.2⟩
    rcases Int.lt_or_le now d.1 with h1 | h1
    · refine ⟨x, d, (0, 0, 0), true, false, fun w S h _ => both_first h hp hm, htk, fun w S l' h hb => both_lfirst h hb hq hd, fun w S l' h hb => ?_, hb1, .inr (.inr ⟨rfl, h1⟩)⟩
      exact (both_late now h hb hq hd h1).mono fun e w' he => ⟨he.1, he.2.2⟩
    · refine ⟨x, d, d, true, true, fun w S h _ => both_first h hp hm, htk, fun w S l' h hb => both_lfirst h hb hq hd, fun w S l' h hb => ?_, hb1, .inl ⟨rfl, rfl, h1⟩⟩
      exact (both_ltake now h hb hq hd h1).mono fun e w' he => ⟨he.1, he.2.2⟩

set_option maxRecDepth 1000000 in
set_option maxHeartbeats 2000000 in
theorem walk_whole (w : World) (v0 : Value) (l0 : List Int) (r0 : Reads1 w w.heap.size v0 (l0.map (.int .i64))) (now : Int) (h0 : l0.length ≤ 60) :
    Calls Try.prog 7 #[v0, .int .i64 now] w fun e w' => e = .returned (.bool true) ∧ Below w.heap.size w w' := by
  have hro := r0.toO (F := []) (Nat.le_refl _) (by simp)
  have hnew := new_any hro (by omega)
  obtain ⟨A0, c0, rfl⟩ := r0.form
  have R0 := Lib.hid r0
  obtain ⟨n0, hn0⟩ : ∃ n, l0.length = n := ⟨_, rfl⟩
  have HN := Lib.hid hn0
  rw [hn0] at h0 hnew
  rw [hn0]
  clear r0 hn0 hro
  have hb : decide ((60 : Int) < (n0 : Int)) = false := by simp; omega
  go_enter Try.func7, Try.ntmps7
  go_wp2_with fail
  refine hnew.mono ?_
  rintro e w1 ⟨rfl, ⟨F, hp, hF⟩, hb1⟩
  have H1 := Lib.hid (And.intro hp (And.intro hF hb1))
  clear hp hF hb1 hnew
  go_wp2_with fail
  refine (newLine_any _).mono ?_
  rintro e w2 ⟨rfl, hl, hb2⟩
  obtain ⟨hp, hF, hb1⟩ := H1.out
  have hle : w.heap.size ≤ w1.heap.size := hb1.size
  have hbo : Both w.heap.size w2 w.heap.size l0 w1.heap.size 0 [] [] :=
    ⟨F, [w1.heap.size], hp.below hb2, hl, hF, by simpa using hle, fun k hk h => by have := hp.lt k hk; simp at h; omega, by simp⟩
  have hbb : Below w.heap.size w w2 := hb1.trans (hb2.mono hle)
  have HB := Lib.hid (And.intro hbo hbb)
  clear hp hF hb1 hl hb2 hbo hbb H1 hle
  generalize w1.heap.size = q at *
  go_wp2_with fail
  go_loopg [7] n0 (fun g i wr => ∃ k : Nat, i = .int .i64 k ∧ k + g = n0 ∧ Both w.heap.size wr w.heap.size l0 q k (mkd (l0.take k)) [] ∧ Below w.heap.size w wr)
  case atStart => exact ⟨0, rfl, by omega, by simpa [mkd] using HB.out.1, HB.out.2⟩
  case round =>
    clear HB w1 w2
    obtain ⟨k, rfl, hkg, hbo, hbw⟩ := hrel
    by_cases hlt : k < n0
    · have hn0 := HN.out
      obtain ⟨b, off, c, hv, hbl, hck⟩ := R0.out.at hbw k (by omega)
      simp only [Value.slice.injEq] at hv
      obtain ⟨rfl, _, rfl⟩ := hv
      have e2 := take_mkd l0 k (by omega)
      have hpu := both_lput l0[k] k hbo hbw.size (by rw [length_mkd]; simp; omega) (by omega)
      have HE := Lib.hid e2
      generalize hx : l0[k] = x at *
      have hlt1 : (k : Int) < n0 := by omega
      have HB := Lib.hid hbw
      clear hbo hbw e2 hx hn0
      go_wp2_with fail
      refine hpu.mono ?_
      rintro e w3 ⟨rfl, hbo, hl⟩
      have H2 := Lib.hid (And.intro hbo hl.below)
      clear hbo hl hpu
      go_wp2
      go_roundg (n0 - (k + 1))
      case measure => omega
      case rel =>
        refine ⟨k + 1, by go_num, by omega, ?_, HB.out.trans H2.out.2⟩
        rw [HE.out]
        obtain ⟨F, G, h1, h2, h3⟩ := H2.out.1
        exact ⟨F, G, h1, h2.perm (List.perm_append_singleton _ _).symm, h3⟩
    · obtain rfl : k = n0 := by omega
      have hfull : l0.take k = l0 := List.take_of_length_le (by rw [HN.out]; exact Nat.le_refl _)
      rw [hfull] at hbo
      obtain ⟨a, d, f, bx, fb, hA⟩ := answers w.heap.size w.heap.size q l0 now
      rw [HN.out] at hA
      have HA := Lib.hid hA
      have hf := hA.first _ _ hbo hbw.size
      have htk := hA.take _ _ hbo hbw.size
      have hbx := hA.bx
      rw [HN.out] at hbx
      have hbx2 : decide (0 < k) = bx := hbx.symm
      have HB := Lib.hid hbw
      clear hfull hlt hkg hbo hbw hA hbx
      go_wp2_with (go_at_call 10; refine hf.mono ?_; rintro e w' ⟨rfl, rfl⟩)
      refine htk.mono ?_
      rintro e w3 ⟨rfl, ⟨l', hbo⟩, hl⟩
      have hbb := HB.out.trans hl.below
      have hlf := HA.out.lfirst _ _ _ hbo hbb.size
      have H3 := Lib.hid hbb
      clear hbo hl hbb HB hf htk
      unfold dval at *
      go_wp2_with fail
      refine hlf.mono ?_
      rintro e w4 ⟨rfl, hbo, hl⟩
      have hbb := H3.out.trans hl.below
      have hbo2 := hbo.more (.cells #[.int .i64 d.1, .int .i64 d.2.1, .int .i64 d.2.2] 28)
      have hb3 := hbb.trans (((Below.refl w4.heap.size w4).alloc (Nat.le_refl _) (.cells #[.int .i64 d.1, .int .i64 d.2.1, .int .i64 d.2.2] 28)).mono hbb.size)
      have hlf2 := HA.out.lfirst _ _ _ hbo2 hb3.size
      have H4 := Lib.hid (And.intro hb3 (Has.made w4 28 #[.int .i64 d.1, .int .i64 d.2.1, .int .i64 d.2.2]))
      clear hbo hl hbb H3 hlf hbo2 hb3
      unfold dval at *
      go_wp2_with fail
      refine hlf2.mono ?_
      rintro e w5 ⟨rfl, hbo, hl⟩
      obtain ⟨hb3, hm4⟩ := H4.out
      have hbb := hb3.trans hl.below
      have hm5 := hl.has hm4 (by simp)
      have hbo2 := hbo.more (.cells #[.int .i64 d.1, .int .i64 d.2.1, .int .i64 d.2.2] 28)
      have hb4 := hbb.trans (((Below.refl w5.heap.size w5).alloc (Nat.le_refl _) (.cells #[.int .i64 d.1, .int .i64 d.2.1, .int .i64 d.2.2] 28)).mono hbb.size)
      have hlt4 := HA.out.ltake _ _ _ hbo2 hb4.size
      have H5 := Lib.hid (And.intro hb4 (And.intro (hm5.alloc (.cells #[.int .i64 d.1, .int .i64 d.2.1, .int .i64 d.2.2] 28)) (Has.made w5 28 #[.int .i64 d.1, .int .i64 d.2.1, .int .i64 d.2.2])))
      clear hbo hl hbb hb3 hm4 hm5 H4 hlf2 hbo2 hb4
      generalize w4.heap.size = b4 at *
      unfold dval at *
      go_wp2_with fail
      refine hlt4.mono ?_
      rintro e w6 ⟨rfl, hl⟩
      obtain ⟨hb4, hm4, hm5⟩ := H5.out
      have hbb := hb4.trans hl.below
      have hm4' := hl.has hm4 (by simp)
      have hm5' := hl.has hm5 (by simp)
      have hbz := (Below.refl w6.heap.size w6).alloc (Nat.le_refl _) (.cells #[.int .i64 f.1, .int .i64 f.2.1, .int .i64 f.2.2] 28)
      have hb6 := hbb.trans (hbz.mono hbb.size)
      have hlt4i := hm4'.inside
      have hlt5i := hm5'.inside
      have H6 := Lib.hid (And.intro hb6 (And.intro (hm4'.alloc (.cells #[.int .i64 f.1, .int .i64 f.2.1, .int .i64 f.2.2] 28)) (And.intro (hm5'.alloc (.cells #[.int .i64 f.1, .int .i64 f.2.1, .int .i64 f.2.2] 28)) (Has.made w6 28 #[.int .i64 f.1, .int .i64 f.2.1, .int .i64 f.2.2]))))
      clear hl hbb hb4 hm4 hm5 hm4' hm5' hbz hb6 H5 hlt4
      generalize w5.heap.size = b5 at *
      obtain ⟨hb6, hm4, hm5, hm6⟩ := H6.out
      have x0 : (w6.alloc (.cells #[.int .i64 f.1, .int .i64 f.2.1, .int .i64 f.2.2] 28)).cell? ⟨b4, 0, none⟩ = some (.int .i64 d.1) := hm4.cell 0
      have x1 : (w6.alloc (.cells #[.int .i64 f.1, .int .i64 f.2.1, .int .i64 f.2.2] 28)).cell? ⟨b4, 1, none⟩ = some (.int .i64 d.2.1) := hm4.cell 1
      have x2 : (w6.alloc (.cells #[.int .i64 f.1, .int .i64 f.2.1, .int .i64 f.2.2] 28)).cell? ⟨b4, 2, none⟩ = some (.int .i64 d.2.2) := hm4.cell 2
      have y0 : (w6.alloc (.cells #[.int .i64 f.1, .int .i64 f.2.1, .int .i64 f.2.2] 28)).cell? ⟨b5, 0, none⟩ = some (.int .i64 d.1) := hm5.cell 0
      have y1 : (w6.alloc (.cells #[.int .i64 f.1, .int .i64 f.2.1, .int .i64 f.2.2] 28)).cell? ⟨b5, 1, none⟩ = some (.int .i64 d.2.1) := hm5.cell 1
      have y2 : (w6.alloc (.cells #[.int .i64 f.1, .int .i64 f.2.1, .int .i64 f.2.2] 28)).cell? ⟨b5, 2, none⟩ = some (.int .i64 d.2.2) := hm5.cell 2
      have HX := Lib.hid (And.intro hb6 (And.intro hm4 hm6))
      have hr := HA.out.right
      rw [HN.out] at hr
      have hlb : w6.heap.size < (w6.alloc (.cells #[.int .i64 f.1, .int .i64 f.2.1, .int .i64 f.2.2] 28)).heap.size := by simp
      have HLB := Lib.hid hlb
      clear hb6 hm4 hm5 hm6 H6 hlb
      cases bx
      · go_wp2_with fail
        refine (alive_any _).mono ?_
        rintro e w7 ⟨rfl, hb7⟩
        obtain ⟨hb6, hm4, hm6⟩ := HX.out
        have hfin := hb6.trans (hb7.mono hb6.size)
        have hm4' := hm4.below hb7 hm4.inside
        have hm6' := hm6.below hb7 HLB.out
        have z0 : (w7).cell? ⟨b4, 0, none⟩ = some (.int .i64 d.1) := hm4'.cell 0
        have z1 : (w7).cell? ⟨b4, 1, none⟩ = some (.int .i64 d.2.1) := hm4'.cell 1
        have z2 : (w7).cell? ⟨b4, 2, none⟩ = some (.int .i64 d.2.2) := hm4'.cell 2
        have v0 : (w7).cell? ⟨w6.heap.size, 0, none⟩ = some (.int .i64 f.1) := hm6'.cell 0
        have v1 : (w7).cell? ⟨w6.heap.size, 1, none⟩ = some (.int .i64 f.2.1) := hm6'.cell 1
        have v2 : (w7).cell? ⟨w6.heap.size, 2, none⟩ = some (.int .i64 f.2.2) := hm6'.cell 2
        have HF := Lib.hid hfin
        clear hb6 hm4 hm6 hb7 hfin hm4' hm6' HX HLB x0 x1 x2 y0 y1 y2
        rcases hr with ⟨rfl, rfl, hle⟩ | ⟨rfl, hk0⟩ | ⟨rfl, hlt⟩
        · have hd : decide (f.1 ≤ now) = true := by simpa using hle
          clear hle
          go_wp2
          go_ret
          exact ⟨rfl, HF.out⟩
        · have hd : ((k : Int) == 0) = true := by simp; omega
          go_wp2
          go_ret
          exact ⟨rfl, HF.out⟩
        · have hd : decide (now < d.1) = true := by simpa using hlt
          have hk : ((k : Int) == 0) = true := by have := hbx2; simp at this; simp; omega
          clear hlt
          go_wp2
          go_ret
          exact ⟨rfl, HF.out⟩
      · go_wp2_with fail
        refine (alive_any _).mono ?_
        rintro e w7 ⟨rfl, hb7⟩
        obtain ⟨hb6, hm4, hm6⟩ := HX.out
        have hfin := hb6.trans (hb7.mono hb6.size)
        have hm4' := hm4.below hb7 hm4.inside
        have hm6' := hm6.below hb7 HLB.out
        have z0 : (w7).cell? ⟨b4, 0, none⟩ = some (.int .i64 d.1) := hm4'.cell 0
        have z1 : (w7).cell? ⟨b4, 1, none⟩ = some (.int .i64 d.2.1) := hm4'.cell 1
        have z2 : (w7).cell? ⟨b4, 2, none⟩ = some (.int .i64 d.2.2) := hm4'.cell 2
        have v0 : (w7).cell? ⟨w6.heap.size, 0, none⟩ = some (.int .i64 f.1) := hm6'.cell 0
        have v1 : (w7).cell? ⟨w6.heap.size, 1, none⟩ = some (.int .i64 f.2.1) := hm6'.cell 1
        have v2 : (w7).cell? ⟨w6.heap.size, 2, none⟩ = some (.int .i64 f.2.2) := hm6'.cell 2
        have HF := Lib.hid hfin
        clear hb6 hm4 hm6 hb7 hfin hm4' hm6' HX HLB x0 x1 x2 y0 y1 y2
        rcases hr with ⟨rfl, rfl, hle⟩ | ⟨rfl, hk0⟩ | ⟨rfl, hlt⟩
        · have hd : decide (f.1 ≤ now) = true := by simpa using hle
          clear hle
          go_wp2
          go_ret
          exact ⟨rfl, HF.out⟩
        · have hd : ((k : Int) == 0) = true := by simp; omega
          go_wp2
          go_ret
          exact ⟨rfl, HF.out⟩
        · have hd : decide (now < d.1) = true := by simpa using hlt
          have hk : ((k : Int) == 0) = false := by have := hbx2; simp at this; simp; omega
          clear hlt
          go_wp2
          go_ret
          exact ⟨rfl, HF.out⟩

theorem walk (w : World) (v0 : Value) (l0 : List Int) (r0 : Reads1 w w.heap.size v0 (l0.map (.int .i64))) (_i0 : ∀ x ∈ l0, IsInt x) (m0 : l0.length ≤ 9223372036854775807) (now : Int) (_hn : IsInt now) :
    Calls Try.prog 7 #[v0, .int .i64 now] w fun e w' => e = .returned (.bool true) ∧ Below w.heap.size w w' := by
  by_cases h : 60 < l0.length
  · exact walk_out w v0 l0 r0 now m0 h
  · exact walk_whole w v0 l0 r0 now (by omega)

set_option maxRecDepth 100000 in
theorem lifted (os : Os) (started : os.Started) (H : Type) (enc : TypeId × Value → H) :
    ReturnsInHanded {} Try.checked os 7 .any (Rows.pileFirstSpec.pre6 enc Try.prog Try.f7 Rows.pileFirstRow.domain false) (Rows.pileFirstSpec.post enc Try.prog Try.f7 false true false false) := by
  refine returnsInHanded_of_change (C := Try.checked) own started (by kernel_rfl) Try.func7
    (ChangeSpec.witness6 (enc := enc) (C := Try.checked) false ⟨#[], #[.slice none 0 0, .int .i64 0], []⟩ 8 (by kernel_rfl) (by kernel_rfl) (by kernel_rfl) (by kernel_rfl)) ?_
  intro W base args ds gs before hval0 hW hcnd _
  have hval : ∀ (j : Nat) t v, Try.f7.params[j]? = some t → args[j]? = some v → Value.okWide Try.prog W .any base t v := hval0
  have hW' := hW
  obtain ⟨p, q, hA0, hV, rfl, hfz, hnd⟩ := hW
  have hA : DataW.TrodAll enc Try.prog W 0 (fun _ => true) true Try.f7.params.toList args.toList ds p := hA0
  rw [Try.params7] at hA hval
  obtain ⟨v0, vs0, d0, ds0, p0, q0, hargs, rfl, rfl, h0, r00⟩ := trodAll_cons hA
  obtain ⟨v1, vs1, d1, ds1, p1, q1, rfl, rfl, rfl, h1, r01⟩ := trodAll_cons r00
  obtain ⟨rfl, rfl, rfl⟩ := trodAll_nil r01
  obtain rfl : args = #[v0, v1] := by cases args; simp_all
  obtain ⟨rfl, rfl⟩ := trodVars_none hV
  obtain ⟨l0, r0, i0, m0⟩ := reads_ints (hval 0 34 v0 rfl rfl) h0
  obtain ⟨n1, rfl, rfl, rfl, w1⟩ := open_int Try.underlying3 (hval 1 3 v1 rfl rfl) h1
  clear hA0 hval0
  refine (walk W v0 l0 r0 i0 m0 n1 (isInt_of_wf w1)).mono fun e W' ⟨he, hb⟩ => ?_
  subst he
  exact ⟨_, rfl, law_post hW' rfl rfl (by kernel_rfl) (by kernel_rfl) hb⟩

theorem said : Rows.PileFirstSaid :=
  OpenClaim.holds_of_wide 7 Try.f7 rfl rfl rfl rfl rfl rfl rfl ⟨rfl, rfl, rfl, rfl, rfl⟩ rfl rfl rfl rfl rfl (by kernel_rfl) Try.func7 (by kernel_rfl)
    (of_decide_eq_true (by kernel_rfl)) (by unfold Func.isWrapper; first | (rw [if_pos (by decide +kernel)]; kernel_rfl) | (rw [if_neg (by decide +kernel)]; exact ⟨rfl, rfl⟩))
    (fun os started H enc _ => lifted os started H enc)

end Go.Proofs.Ytikgpkondoifbaa.pileFirst
