/-
  PileJoins: numbers that are put one by one, at once, or in two parts make the same pile; for every two []int. Conditions: none but those of the given statement.
-/
import Derived.Test.YtikgpkondoifbaaP8
import Derived.Test.YtikgpkondoifbaaB3
import Derived.Test.YtikgpkondoifbaaFrameS
namespace Go.Proofs.Ytikgpkondoifbaa.pileJoins
open Go.ChangeShapes Go.WideShapes Go.ChangeAt Go.RowKit Go.Sort

/-- Three piles side by side. -/
def Three (base : Nat) (w : World) (p : Nat) (l : List Int) (q : Nat) (m : List Int) (r : Nat) (n : List Int) : Prop :=
  ∃ F G H, PileIs p w F l ∧ PileIs q w G m ∧ PileIs r w H n ∧ (∀ k ∈ F, base ≤ k) ∧ (∀ k ∈ G, base ≤ k) ∧ (∀ k ∈ H, base ≤ k) ∧ (∀ k ∈ F, k ∉ G) ∧ (∀ k ∈ F, k ∉ H) ∧ (∀ k ∈ G, k ∉ H)

section
variable {base : Nat} {w w' : World} {p q r : Nat} {l m n : List Int}
theorem Three.below (h : Three base w p l q m r n) (hb : Below w.heap.size w w') : Three base w' p l q m r n := by
  obtain ⟨F, G, H, h1, h2, h3, h4⟩ := h
  exact ⟨F, G, H, h1.below hb, h2.below hb, h3.below hb, h4⟩
theorem Three.turn (h : Three base w p l q m r n) : Three base w q m p l r n := by
  obtain ⟨F, G, H, h1, h2, h3, h4, h5, h6, h7, h8, h9⟩ := h
  exact ⟨G, F, H, h2, h1, h3, h5, h4, h6, fun k hk h => h7 k h hk, h9, h8⟩
theorem Three.pil (h : Three base w p l q m r n) : Pil base w p l ∧ Pil base w q m ∧ Pil base w r n := by
  obtain ⟨F, G, H, h1, h2, h3, h4, h5, h6, h7⟩ := h
  exact ⟨⟨F, h1, h4⟩, ⟨G, h2, h5⟩, ⟨H, h3, h6⟩⟩

theorem three_put {v : Value} {xs : List Int} (h : Three base w p l q m r n) (hb : base ≤ w.heap.size) (hv : ∀ F, (∀ k ∈ F, base ≤ k ∧ k < w.heap.size) → PileIs p w F l → ReadsO F w v (xs.map (.int .i64))) (hl : xs.length + l.length ≤ 1000000) :
    Calls Try.prog 8 #[.pointer (some ⟨p, 0, none⟩), v] w fun e w' => e = .returned (.tuple #[]) ∧ Three base w' p (xs ++ l) q m r n ∧ Below base w w' := by
  obtain ⟨F, G, H, h1, h2, h3, h4, h5, h6, h7, h8, h9⟩ := h
  refine (put_any h1 (hv F (fun k hk => ⟨h4 k hk, h1.lt k hk⟩) h1) hl).mono ?_
  rintro e w' ⟨rfl, F', hp, hg⟩
  refine ⟨rfl, ⟨F', G, H, hp, h2.kept hg.1 (fun k hk hF => h7 k hF hk), h3.kept hg.1 (fun k hk hF => h8 k hF hk), fun k hk => (hg.2 k hk).elim (h4 k) (fun h => by omega), h5, h6, ?_, ?_, h9⟩, hg.1.below hb h4⟩
  · exact fun k hk hG => (hg.2 k hk).elim (fun hF => h7 k hF hG) (fun h => by have := h2.lt k hG; omega)
  · exact fun k hk hH => (hg.2 k hk).elim (fun hF => h8 k hF hH) (fun h => by have := h3.lt k hH; omega)

theorem three_put1 (x : Int) (h : Three base w p l q m r n) (hb : base ≤ w.heap.size) (hl : l.length < 1000000) :
    Calls Try.prog 8 #[.pointer (some ⟨p, 0, none⟩), .slice (some ⟨w.heap.size, 0, none⟩) 1 1] (w.alloc (.cells #[.int .i64 x] 3)) fun e w' => e = .returned (.tuple #[]) ∧ Three base w' p (x :: l) q m r n ∧ Below base w w' := by
  have hb0 : Below w.heap.size w (w.alloc (.cells #[.int .i64 x] 3)) := (Below.refl _ _).alloc (Nat.le_refl _) _
  obtain ⟨F, G, H, h1, h2, h3, h4, h5, h6, h7, h8, h9⟩ := h
  have hlt := h1.lt
  have hro : ReadsO F (w.alloc (.cells #[.int .i64 x] 3)) (.slice (some ⟨w.heap.size, 0, none⟩) 1 1) ([x].map (.int .i64)) :=
    ⟨some ⟨w.heap.size, 0, none⟩, 1, rfl, fun _ => ⟨w.heap.size, 0, rfl, by simp, fun hF => by have := hlt _ hF; omega, fun j u hu => by
      rw [Nat.zero_add, (Has.made w 3 #[.int .i64 x]).cell j]
      simpa using hu⟩⟩
  refine (put_any (h1.below hb0) hro (by simp; omega)).mono ?_
  rintro e w' ⟨rfl, F', hp, hg⟩
  have hz := hb0.size
  refine ⟨rfl, ⟨F', G, H, hp, (h2.below hb0).kept hg.1 (fun k hk hF => h7 k hF hk), (h3.below hb0).kept hg.1 (fun k hk hF => h8 k hF hk), fun k hk => (hg.2 k hk).elim (h4 k) (fun h => by omega), h5, h6, ?_, ?_, h9⟩, (hb0.mono hb).trans (hg.1.below (by omega) h4)⟩
  · exact fun k hk hG => (hg.2 k hk).elim (fun hF => h7 k hF hG) (fun h => by have := h2.lt k hG; omega)
  · exact fun k hk hH => (hg.2 k hk).elim (fun hF => h8 k hF hH) (fun h => by have := h3.lt k hH; omega)
end

set_option maxRecDepth 1000000 in
theorem walk_out (w : World) (v0 : Value) (l0 : List Int) (r0 : Reads1 w w.heap.size v0 (l0.map (.int .i64))) (v1 : Value) (l1 : List Int) (r1 : Reads1 w w.heap.size v1 (l1.map (.int .i64))) (h0 : l0.length ≤ 9223372036854775807) (h1 : l1.length ≤ 9223372036854775807) (h : 60 < l0.length ∨ 60 < l1.length) :
    Calls Try.prog 6 #[v0, v1] w fun e w' => e = .returned (.bool true) ∧ Below w.heap.size w w' := by
  obtain ⟨A0, c0, rfl⟩ := r0.form
  obtain ⟨A1, c1, rfl⟩ := r1.form
  clear r0 r1
  generalize l0.length = n0 at *
  generalize l1.length = n1 at *
  rcases Nat.lt_or_ge 60 n0 with h2 | h2
  · have hb : decide ((60 : Int) < (n0 : Int)) = true := by simp; omega
    clear h
    go_enter Try.func6, Try.ntmps6
    go_wp2_with fail
    refine (alive_any _).mono ?_
    rintro e w' ⟨rfl, hb⟩
    go_wp2_with fail
    go_ret
    exact ⟨rfl, hb⟩
  · have hb : decide ((60 : Int) < (n0 : Int)) = false := by simp; omega
    have hb2 : decide ((60 : Int) < (n1 : Int)) = true := by simp; omega
    clear h
    go_enter Try.func6, Try.ntmps6
    go_wp2_with fail
    refine (alive_any _).mono ?_
    rintro e w' ⟨rfl, hb⟩
    go_wp2_with fail
    go_ret
    exact ⟨rfl, hb⟩

set_option maxRecDepth 1000000 in
set_option maxHeartbeats 2000000 in
theorem walk_whole (w : World) (v0 : Value) (l0 : List Int) (r0 : Reads1 w w.heap.size v0 (l0.map (.int .i64))) (f0 : ∀ n c, v0 = .slice none n c → n = 0 ∧ c = 0) (v1 : Value) (l1 : List Int) (r1 : Reads1 w w.heap.size v1 (l1.map (.int .i64))) (f1 : ∀ n c, v1 = .slice none n c → n = 0 ∧ c = 0)
    (h0 : l0.length ≤ 60) (h1 : l1.length ≤ 60) :
    Calls Try.prog 6 #[v0, v1] w fun e w' => e = .returned (.bool true) ∧ Below w.heap.size w w' := by
  have hro := r0.toO (F := []) (Nat.le_refl _) (by simp)
  have hnew := new_any hro (by omega)
  obtain ⟨A0, c0, rfl⟩ := r0.form
  obtain ⟨A1, c1, rfl⟩ := r1.form
  have R0 := Lib.hid (And.intro r0 f0)
  have R1 := Lib.hid (And.intro r1 f1)
  obtain ⟨n0, hn0⟩ : ∃ n, l0.length = n := ⟨_, rfl⟩
  obtain ⟨n1, hn1⟩ : ∃ n, l1.length = n := ⟨_, rfl⟩
  have HN := Lib.hid (And.intro hn0 hn1)
  rw [hn0] at h0 hnew
  rw [hn1] at h1
  rw [hn0, hn1]
  clear r0 r1 f0 f1 hn0 hn1 hro
  have hb : decide ((60 : Int) < (n0 : Int)) = false := by simp; omega
  have hb2 : decide ((60 : Int) < (n1 : Int)) = false := by simp; omega
  go_enter Try.func6, Try.ntmps6
  go_wp2_with fail
  refine hnew.mono ?_
  rintro e w1 ⟨rfl, ⟨F, hp, hF⟩, hb1⟩
  have H1 := Lib.hid (And.intro hp (And.intro hF hb1))
  clear hp hF hb1 hnew
  go_wp2_with fail
  refine (new_any (l := []) (w := w1) ⟨none, 0, rfl, fun h => absurd h (by simp)⟩ (by simp)).mono ?_
  rintro e w2 ⟨rfl, ⟨G, hq, hG⟩, hb2⟩
  obtain ⟨hp, hF, hb1⟩ := H1.out
  have hbb := hb1.trans (hb2.mono hb1.size)
  have H2 := Lib.hid (And.intro (hp.below hb2) (And.intro hF (And.intro hq (And.intro hG (And.intro hbb (And.intro hp.lt hb1.size))))))
  have ra := (R1.out.1).below hbb
  have rb := (R0.out.1)
  have fa := R1.out.2
  have fb := R0.out.2
  have hl := HN.out
  have hz := hbb.size
  clear hp hF hb1 hq hG hb2 H1
  go_wp2_with (at_builtin; first
    | (refine append_reads rfl _ _ 34 3 (.int .i64 0) 8 Try.underlying34 Try.infoInt rfl (by decide) rfl w2.heap.size w2 (.slice none 0 0) 0 [] rfl (World.ownsRow_nil _ _ _ _) w.heap.size (.slice A1 n1 c1) rfl _ (hl.2 ▸ ra) (hl.2 ▸ fa) int_one (by simp; omega) (Nat.le_refl _) ?_; intro v3 w3 hown3 hb3)
    | (refine append_reads rfl _ _ 34 3 (.int .i64 0) 8 Try.underlying34 Try.infoInt rfl (by decide) rfl w2.heap.size w3 v3 _ _ rfl hown3 w.heap.size (.slice A0 n0 c0) rfl _ (hl.1 ▸ rb.below (hbb.trans (hb3.mono hz))) (hl.1 ▸ fb) int_one (by simp; omega) hb3.size ?_; intro v4 w4 hown4 hb4))
  have hrow : w4.ownsRow w2.heap.size 3 1 v4 (l1 ++ l0).length ((l1 ++ l0).map (.int .i64)) := by
    have := hown4
    simp only [List.nil_append, Nat.zero_add, List.length_map] at this
    rwa [← List.map_append, ← List.length_append] at this
  have hro : ReadsO [] w4 v4 ((l1 ++ l0).map (.int .i64)) := row_readsO hrow (fun g _ => by simp)
  have hnw := new_any hro (by simp; omega)
  have hb24 : Below w2.heap.size w2 w4 := hb3.trans hb4
  have H4 := Lib.hid hb24
  clear hown3 hown4 hb3 hb4 ra rb fa fb hl hrow hro hb24 hbb
  go_wp2_with fail
  refine hnw.mono ?_
  rintro e w5 ⟨rfl, ⟨H, hr, hH⟩, hb5⟩
  obtain ⟨hp, hF, hq, hG, hbb, hlt, hz1⟩ := H2.out
  have hz4 := H4.out.size
  have hth : Three w.heap.size w5 w.heap.size l0 w1.heap.size [] w4.heap.size (l1 ++ l0) :=
    ⟨F, G, H, (hp.below H4.out).below hb5, (hq.below H4.out).below hb5, hr, hF, fun k hk => Nat.le_trans hz1 (hG k hk), fun k hk => by have := hH k hk; omega,
      fun k hk hkG => by have := hG k hkG; have := hlt k hk; omega, fun k hk hkH => by have := hH k hkH; have := hp.lt k hk; omega, fun k hk hkH => by have := hH k hkH; have := hq.lt k hk; omega⟩
  have hb05 : Below w.heap.size w w5 := (hbb.trans (H4.out.mono hz)).trans (hb5.mono (by omega))
  obtain ⟨hn0, hn1⟩ := HN.out
  have hpu := three_put (v := .slice A1 n1 c1) (xs := l1) hth hb05.size (fun F hF _ => by
    have h1 := (R1.out.1.below hb05).toO (F := F) hb05.size (fun k hk => (hF k hk).1)
    rwa [hn1] at h1) (by omega)
  have H5 := Lib.hid hb05
  clear hp hF hq hG hbb hlt hz1 hz4 hth hb05 hr hH hb5 H2 H4 hnw hn0 hn1 hz
  generalize w1.heap.size = q at *
  generalize w4.heap.size = r at *
  go_wp2_with fail
  refine hpu.mono ?_
  rintro e w6 ⟨rfl, hth, hb6⟩
  have H6 := Lib.hid (And.intro hth.turn (H5.out.trans hb6))
  clear hth hb6 hpu H5
  go_wp2_with fail
  go_loopg [8] n1 (fun g i wr => ∃ k : Nat, i = .int .i64 k ∧ k + g = n1 ∧ Three w.heap.size wr q (l1.take k) w.heap.size (l1 ++ l0) r (l1 ++ l0) ∧ Below w.heap.size w wr)
  case atStart => exact ⟨0, rfl, by omega, by simpa using H6.out.1, H6.out.2⟩
  case round =>
    clear H6
    obtain ⟨k, rfl, hkg, hth, hbw⟩ := hrel
    by_cases hlt : k < n1
    · obtain ⟨hn0, hn1⟩ := HN.out
      obtain ⟨b, off, c, hv, hbl, hck⟩ := R1.out.1.at hbw k (by omega)
      simp only [Value.slice.injEq] at hv
      obtain ⟨rfl, _, rfl⟩ := hv
      have e1 : l1.take (k + 1) = l1.take k ++ [l1[k]] := by rw [List.take_succ_eq_append_getElem]
      have HE := Lib.hid e1
      have hpu := three_put1 l1[k] hth hbw.size (by simp; omega)
      generalize hx : l1[k] = x at *
      have hlt1 : (k : Int) < n1 := by omega
      have HB := Lib.hid hbw
      clear hth hbw e1 hx hn0 hn1
      go_wp2_with fail
      refine hpu.mono ?_
      rintro e w7 ⟨rfl, hth, hb7⟩
      have H7 := Lib.hid (And.intro hth hb7)
      clear hth hb7 hpu
      go_wp2
      go_roundg (n1 - (k + 1))
      case measure => omega
      case rel =>
        refine ⟨k + 1, by go_num, by omega, ?_, HB.out.trans H7.out.2⟩
        rw [HE.out]
        obtain ⟨F, G, H, h1, h2⟩ := H7.out.1
        exact ⟨F, G, H, h1.perm (List.perm_append_singleton _ _).symm, h2⟩
    · obtain rfl : k = n1 := by omega
      obtain ⟨hn0, hn1⟩ := HN.out
      have hfull : l1.take k = l1 := List.take_of_length_le (by omega)
      rw [hfull] at hth
      have hpu := three_put (v := .slice A0 n0 c0) (xs := l0) hth hbw.size (fun F hF _ => by
        have h1 := (R0.out.1.below hbw).toO (F := F) hbw.size (fun k hk => (hF k hk).1)
        rwa [hn0] at h1) (by omega)
      have HB := Lib.hid hbw
      clear hth hbw hfull hlt hkg hn0 hn1
      go_wp2_with fail
      refine hpu.mono ?_
      rintro e w7 ⟨rfl, hth, hb7⟩
      have H7 := Lib.hid (And.intro hth (HB.out.trans hb7))
      clear hth hb7 hpu HB
      go_wp2_with fail
      refine (alive_any _).mono ?_
      rintro e w8 ⟨rfl, hb8⟩
      have hth := H7.out.1.below hb8
      have hbw := H7.out.2.trans (hb8.mono H7.out.2.size)
      obtain ⟨hq, hp, hr⟩ := hth.pil
      have hl1 := pil_list hp
      have H8 := Lib.hid (And.intro hth hbw)
      clear hth hbw hq hp hr hb8 H7
      go_wp2_with fail
      refine hl1.mono ?_
      rintro e w9 ⟨x1, rfl, ho1, hb9⟩
      have hth := H8.out.1.below hb9
      have hbw := H8.out.2.trans (hb9.mono H8.out.2.size)
      obtain ⟨hq, hp, hr⟩ := hth.pil
      have hl2 := pil_list hq
      have H9 := Lib.hid (And.intro hth (And.intro hbw ho1))
      clear hth hbw hq hp hr hb9 H8 hl1 ho1
      go_wp2_with fail
      refine hl2.mono ?_
      rintro e w10 ⟨x2, rfl, ho2, hb10⟩
      have hth := H9.out.1.below hb10
      have hbw := H9.out.2.1.trans (hb10.mono H9.out.2.1.size)
      have ho1 := H9.out.2.2
      have hps : (l0 ++ l1).mergeSort leInt = (l1 ++ l0).mergeSort leInt := sort_perm List.perm_append_comm
      rw [hps] at ho2
      have rd1 := (row_reads1 ho1).below hb10
      have hsm := sameInts_any x1 x2 ((l1 ++ l0).mergeSort leInt) w10 (rd1.mono hb10.size) (row_reads1 ho2) (by have := HN.out; simp; omega)
      have H10 := Lib.hid (And.intro hth hbw)
      clear hth hbw ho1 hps ho2 rd1 hb10 H9 hl2
      go_wp2_with fail
      refine hsm.mono ?_
      rintro e w11 ⟨rfl, hb11⟩
      have hth := H10.out.1.below hb11
      have hbw := H10.out.2.trans (hb11.mono H10.out.2.size)
      obtain ⟨hq, hp, hr⟩ := hth.pil
      have hl1 := pil_list hp
      have H11 := Lib.hid (And.intro hth hbw)
      clear hth hbw hq hp hr hb11 H10 hsm
      go_wp2_with fail
      refine hl1.mono ?_
      rintro e w12 ⟨x3, rfl, ho1, hb12⟩
      have hth := H11.out.1.below hb12
      have hbw := H11.out.2.trans (hb12.mono H11.out.2.size)
      obtain ⟨hq, hp, hr⟩ := hth.pil
      have hl2 := pil_list hr
      have H12 := Lib.hid (And.intro hth (And.intro hbw ho1))
      clear hth hbw hq hp hr hb12 H11 hl1 ho1
      go_wp2_with fail
      refine hl2.mono ?_
      rintro e w13 ⟨x4, rfl, ho2, hb13⟩
      have hth := H12.out.1.below hb13
      have hbw := H12.out.2.1.trans (hb13.mono H12.out.2.1.size)
      have ho1 := H12.out.2.2
      have rd1 := (row_reads1 ho1).below hb13
      have hsm := sameInts_any x3 x4 ((l1 ++ l0).mergeSort leInt) w13 (rd1.mono hb13.size) (row_reads1 ho2) (by have := HN.out; simp; omega)
      have H13 := Lib.hid (And.intro hth hbw)
      clear hth hbw ho1 ho2 rd1 hb13 H12 hl2
      go_wp2_with fail
      refine hsm.mono ?_
      rintro e w14 ⟨rfl, hb14⟩
      have hth := H13.out.1.below hb14
      have hbw := H13.out.2.trans (hb14.mono H13.out.2.size)
      obtain ⟨hq, hp, hr⟩ := hth.pil
      have hln := pil_len hp
      have hlen : (l1 ++ l0).length = n0 + k := by have := HN.out; simp; omega
      rw [hlen] at hln
      have H14 := Lib.hid hbw
      clear hth hbw hq hp hr hb14 H13 hsm hlen
      have hk1 : ((n0 + k : Nat) : Int) = (n0 : Int) + k := by omega
      rw [hk1] at hln
      clear hk1
      go_wp2_with fail
      refine hln.mono ?_
      rintro e w15 ⟨rfl, rfl⟩
      clear hln
      go_wp2
      go_ret
      exact ⟨rfl, H14.out⟩

theorem walk (w : World) (v0 : Value) (l0 : List Int) (r0 : Reads1 w w.heap.size v0 (l0.map (.int .i64))) (_i0 : ∀ x ∈ l0, IsInt x) (m0 : l0.length ≤ 9223372036854775807 ∧ ∀ n c, v0 = .slice none n c → n = 0 ∧ c = 0)
    (v1 : Value) (l1 : List Int) (r1 : Reads1 w w.heap.size v1 (l1.map (.int .i64))) (_i1 : ∀ x ∈ l1, IsInt x) (m1 : l1.length ≤ 9223372036854775807 ∧ ∀ n c, v1 = .slice none n c → n = 0 ∧ c = 0) : Calls Try.prog 6 #[v0, v1] w fun e w' => e = .returned (.bool true) ∧ Below w.heap.size w w' := by
  by_cases h : 60 < l0.length ∨ 60 < l1.length
  · exact walk_out w v0 l0 r0 v1 l1 r1 m0.1 m1.1 h
  · exact walk_whole w v0 l0 r0 m0.2 v1 l1 r1 m1.2 (by omega) (by omega)

set_option maxRecDepth 100000 in
theorem lifted (os : Os) (started : os.Started) (H : Type) (enc : TypeId × Value → H) :
    ReturnsInHanded {} Try.checked os 6 .any (Rows.pileJoinsSpec.pre6 enc Try.prog Try.f6 Rows.pileJoinsRow.domain false) (Rows.pileJoinsSpec.post enc Try.prog Try.f6 false true false false) := by
  refine returnsInHanded_of_change (C := Try.checked) own started (by kernel_rfl) Try.func6
    (ChangeSpec.witness6 (enc := enc) (C := Try.checked) false ⟨#[], #[.slice none 0 0, .slice none 0 0], []⟩ 8 (by kernel_rfl) (by kernel_rfl) (by kernel_rfl) (by kernel_rfl)) ?_
  intro W base args ds gs before hval0 hW hcnd _
  have hval : ∀ (j : Nat) t v, Try.f6.params[j]? = some t → args[j]? = some v → Value.okWide Try.prog W .any base t v := hval0
  have hW' := hW
  obtain ⟨p, q, hA0, hV, rfl, hfz, hnd⟩ := hW
  have hA : DataW.TrodAll enc Try.prog W 0 (fun _ => true) true Try.f6.params.toList args.toList ds p := hA0
  rw [Try.params6] at hA hval
  obtain ⟨v0, vs0, d0, ds0, p0, q0, hargs, rfl, rfl, h0, r00⟩ := trodAll_cons hA
  obtain ⟨v1, vs1, d1, ds1, p1, q1, rfl, rfl, rfl, h1, r01⟩ := trodAll_cons r00
  obtain ⟨rfl, rfl, rfl⟩ := trodAll_nil r01
  obtain rfl : args = #[v0, v1] := by cases args; simp_all
  obtain ⟨rfl, rfl⟩ := trodVars_none hV
  obtain ⟨l0, r0, i0, m0⟩ := reads_intsF (hval 0 34 v0 rfl rfl) h0
  obtain ⟨l1, r1, i1, m1⟩ := reads_intsF (hval 1 34 v1 rfl rfl) h1
  clear hA0 hval0
  refine (walk W v0 l0 r0 i0 m0 v1 l1 r1 i1 m1).mono fun e W' ⟨he, hb⟩ => ?_
  subst he
  exact ⟨_, rfl, law_post hW' rfl rfl (by kernel_rfl) (by kernel_rfl) hb⟩

theorem said : Rows.PileJoinsSaid :=
  OpenClaim.holds_of_wide 6 Try.f6 rfl rfl rfl rfl rfl rfl rfl ⟨rfl, rfl, rfl, rfl, rfl⟩ rfl rfl rfl rfl rfl (by kernel_rfl) Try.func6 (by kernel_rfl)
    (of_decide_eq_true (by kernel_rfl)) (by unfold Func.isWrapper; first | (rw [if_pos (by decide +kernel)]; kernel_rfl) | (rw [if_neg (by decide +kernel)]; exact ⟨rfl, rfl⟩))
    (fun os started H enc _ => lifted os started H enc)

end Go.Proofs.Ytikgpkondoifbaa.pileJoins
