/-
  A device of two pages that metas are written to: what each call leaves. The statements of chapter 5: a first call whose answer the document fixes.
-/
import Derived.Test.YthcpjpebahiikaaDoorMg34
namespace Go.Proofs.YthcpjpebahiikaaDoor
open Go.RowKit Go.Lib

/-- In world W stands the device s at block q, and besides it the objects L; nothing that was there below B in w has turned. -/
def DevRun (B : Nat) (w : World) (q : Nat) (s : DevS) (L : List (Nat × TypeId × Array Value)) (W : World) : Prop :=
  B ≤ w.heap.size ∧ Below B w W ∧ ∃ F, DevAt W q s F ∧ (∀ k ∈ F, B ≤ k) ∧ ∀ x ∈ L, Has W x.1 x.2.1 x.2.2 ∧ x.1 ∉ F
section
variable {B q : Nat} {w W W' : World} {s : DevS} {L : List (Nat × TypeId × Array Value)}
theorem DevRun.below (h : DevRun B w q s L W) (hb : Below W.heap.size W W') : DevRun B w q s L W' := by
  obtain ⟨h0, h1, F, h2, h3, h4⟩ := h
  exact ⟨h0, h1.trans (hb.mono (Nat.le_trans h0 h1.size)), F, (h2.goes hb).1, h3, fun x hx => ⟨(h4 x hx).1.below hb (h4 x hx).1.inside, (h4 x hx).2⟩⟩
theorem DevRun.go {s' : DevS} {F F' : List Nat} (h0 : B ≤ w.heap.size) (h1 : Below B w W) (h3 : ∀ k ∈ F, B ≤ k) (h4 : ∀ x ∈ L, Has W x.1 x.2.1 x.2.2 ∧ x.1 ∉ F) (hd : DevAt W' q s' F') (hg : Goes F W F' W') : DevRun B w q s' L W' := by
  have hB : B ≤ W.heap.size := Nat.le_trans h0 h1.size
  refine ⟨h0, h1.trans (hg.1.below hB h3), F', hd, fun k hk => (hg.2 k hk).elim (h3 k) (Nat.le_trans hB), fun x hx => ⟨(h4 x hx).1.kept hg.1 (h4 x hx).2, fun hk => ?_⟩⟩
  rcases hg.2 _ hk with h | h
  · exact (h4 x hx).2 h
  · have := (h4 x hx).1.inside
    omega
theorem DevRun.to {s' : DevS} {v : Value} {F : List Nat} {e : Ending} (h0 : B ≤ w.heap.size) (h1 : Below B w W) (h3 : ∀ k ∈ F, B ≤ k) (h4 : ∀ x ∈ L, Has W x.1 x.2.1 x.2.2 ∧ x.1 ∉ F) (h : DevTo q s' v F W e W') : e = .returned v ∧ DevRun B w q s' L W' := by
  obtain ⟨rfl, F', h5, h6⟩ := h
  exact ⟨rfl, DevRun.go h0 h1 h3 h4 h5 h6⟩
theorem DevRun.out (h : DevRun B w q s L W) : Below B w W := h.2.1
theorem DevRun.alloc (h : DevRun B w q s L W) (o : Obj) : DevRun B w q s L (W.alloc o) := h.below ((Below.refl _ _).alloc (Nat.le_refl _) _)
theorem DevRun.inside (h : DevRun B w q s L W) : q < W.heap.size := h.2.2.choose_spec.1.inside
theorem DevRun.above (h : DevRun B w q s L W) : B ≤ W.heap.size := Nat.le_trans h.1 h.2.1.size
/-- A new object besides. -/
theorem DevRun.made (h : DevRun B w q s L W) (t : TypeId) (cs : Array Value) : DevRun B w q s ((W.heap.size, t, cs) :: L) (W.alloc (.cells cs t)) := by
  obtain ⟨h0, h1, F, h2, h3, h4⟩ := h.alloc (.cells cs t)
  obtain ⟨_, _, G, g2, g3, g4⟩ := h
  have hb : Below W.heap.size W (W.alloc (.cells cs t)) := (Below.refl _ _).alloc (Nat.le_refl _) _
  refine ⟨h0, h1, G, (g2.goes hb).1, g3, fun x hx => ?_⟩
  rcases List.mem_cons.1 hx with rfl | hx
  · exact ⟨Has.made W t cs, fun hk => by have := g2.lt _ hk; simp at this⟩
  · exact ⟨(g4 x hx).1.below hb (g4 x hx).1.inside, (g4 x hx).2⟩
theorem DevRun.side (h : DevRun B w q s L W) {g : Nat} {t : TypeId} {cs : Array Value} (hx : (g, t, cs) ∈ L) : Has W g t cs := (h.2.2.choose_spec.2.2 _ hx).1
end

theorem new_run (n : Int) (w : World) (h1 : 1 ≤ n) (h2 : n ≤ 3000) : Calls Tryd.prog 11 #[.int .i64 n] w fun e w' => e = .returned (.tuple #[.pointer (some ⟨w.heap.size, 0, none⟩), .int .i64 0]) ∧ DevRun w.heap.size w w.heap.size (newS n) [] w' := by
  refine (new_ok n w h1 h2).mono ?_
  rintro e w1 ⟨rfl, hd, hb⟩
  exact ⟨rfl, Nat.le_refl _, hb, _, hd, by simp, by simp⟩
section
variable (B q : Nat) (w : World) (s : DevS) (L : List (Nat × TypeId × Array Value)) (W : World) (h : DevRun B w q s L W)
include h
theorem grow_run (n : Int) : Calls Tryd.prog 13 #[.pointer (some ⟨q, 0, none⟩), .int .i64 n] W fun e w' => e = .returned (.int .i64 (growAE s n)) ∧ DevRun B w q (growAS s n) L w' := by
  obtain ⟨h0, h1, F, h2, h3, h4⟩ := h
  exact (grow_any q s F n W h2).mono fun e w' ht => DevRun.to h0 h1 h3 h4 ht
theorem write_run (n : Int) (d : ByteArray) (hcap : s.cap ≤ 100000000000) : Calls Tryd.prog 15 #[.pointer (some ⟨q, 0, none⟩), .int .i64 n, .string d] W fun e w' => e = .returned (.int .i64 (writeE s n d)) ∧ DevRun B w q (writeS s n d) L w' := by
  obtain ⟨h0, h1, F, h2, h3, h4⟩ := h
  exact (write_any q s F n d W h2 hcap).mono fun e w' ht => DevRun.to h0 h1 h3 h4 ht
theorem choose_run : Calls Tryd.prog 18 #[.pointer (some ⟨q, 0, none⟩)] W fun e w' => e = .returned (.tuple #[chooseV s, .int .i64 (chooseE s)]) ∧ DevRun B w q s L w' := by
  have hh := h
  obtain ⟨h0, h1, F, h2, h3, h4⟩ := h
  refine (choose_any q s F W h2).mono ?_
  rintro e w' ⟨rfl, hb⟩
  exact ⟨rfl, hh.below hb⟩
end

/-- The page of a meta. -/
def mB (t r f p : Int) : ByteArray := ⟨(mpage t.toNat r.toNat f.toNat p.toNat).toArray⟩
theorem mB_size (t r f p : Int) : (mB t r f p).size = 256 := by show Array.size _ = 256; rw [List.size_toArray, mpage_len]
/-- What Write of a meta leaves. -/
theorem mwrite_run (B q : Nat) (w : World) (s : DevS) (L : List (Nat × TypeId × Array Value)) (W : World) (h : DevRun B w q s L W) (t r f p : Int) (ht : IsInt t) (hr : IsInt r) (hf : IsInt f) (hp : IsInt p) (hok : MetaOK t r f p) (hcap : s.cap ≤ 100000000000) :
    Calls Tryd.prog 17 #[.pointer (some ⟨q, 0, none⟩), metaV t r f p] W fun e w' => e = .returned (.int .i64 (writeE s (t % 2) (mB t r f p))) ∧ DevRun B w q (writeS s (t % 2) (mB t r f p)) L w' := by
  refine (mwrite_ok _ t r f p (writeE s (t % 2) (mB t r f p)) W (fun _ w' => DevRun B w q (writeS s (t % 2) (mB t r f p)) L w') ht hr hf hp hok (fun w1 hb => write_run B q w s L w1 (h.below hb) _ _ hcap)).mono ?_
  rintro e w' ⟨rfl, _, _, hq⟩
  exact ⟨rfl, hq⟩

/-- A device of two pages, X and Y, behind n writes. -/
structure Two (s : DevS) (X Y : ByteArray) (n : Nat) : Prop where
  idle : Idle s
  pages : s.pages = [X, Y]
  line : s.line.length ≤ n
  cap : s.cap ≤ 16 + 2 * n
  most : s.most = 2
section
variable {s : DevS} {X Y d : ByteArray} {n : Nat}
theorem Two.new : Two (longer (newS 2) 2) blank blank 0 := ⟨longer_idle (newS_idle 2) 2, rfl, Nat.le_refl _, by show (0 : Nat) ≤ _; omega, rfl⟩
theorem grown2 : growAE (newS 2) 2 = 0 ∧ growAS (newS 2) 2 = longer (newS 2) 2 := by
  rw [((newS_idle 2).grow 2).1, ((newS_idle 2).grow 2).2]
  exact ⟨rfl, rfl⟩
theorem Two.capIn (h : Two s X Y n) (hn : n ≤ 1000) : s.cap ≤ 100000000000 := by have := h.cap; omega
theorem Two.lineIn (h : Two s X Y n) (hn : n ≤ 1000) : s.line.length ≤ 100000000000 := by have := h.line; omega
theorem Two.roomed (h : Two s X Y n) : roomed s.line s.cap ≤ 16 + 2 * (n + 1) := by
  have h1 := h.line
  have h2 := h.cap
  unfold Proofs.YthcpjpebahiikaaDoor.roomed
  split <;> omega
theorem Two.write0 (h : Two s X Y n) (hd : d.size = 256) : writeE s 0 d = 0 ∧ writeS s 0 d = wroteS s 0 d ∧ Two (wroteS s 0 d) d Y (n + 1) := by
  obtain ⟨a, b, c⟩ := h.idle.write (n := 0) (by omega) (by rw [h.pages]; simp) hd
  refine ⟨a, b, c, by simp [wroteS, h.pages], by simp [wroteS, h.line], ?_, h.most⟩
  have := h.roomed
  simpa [wroteS] using this
theorem Two.write1 (h : Two s X Y n) (hd : d.size = 256) : writeE s 1 d = 0 ∧ writeS s 1 d = wroteS s 1 d ∧ Two (wroteS s 1 d) X d (n + 1) := by
  obtain ⟨a, b, c⟩ := h.idle.write (n := 1) (by omega) (by rw [h.pages]; simp) hd
  refine ⟨a, b, c, by simp [wroteS, h.pages], by simp [wroteS, h.line], ?_, h.most⟩
  have := h.roomed
  simpa [wroteS] using this
theorem Two.choose (h : Two s X Y n) : chooseV s = choV 0 0 X.data.toList Y.data.toList ∧ chooseE s = choE 0 0 X.data.toList Y.data.toList := by
  unfold chooseV chooseE readE readB
  simp [h.idle.on, h.pages]
end

theorem mB_list (t r f p : Int) : (mB t r f p).data.toList = mpage t.toNat r.toNat f.toNat p.toNat := by simp [mB]
/-- What is told of a meta's page, at its place. -/
theorem mB_get {t r f p : Int} (h : MetaOK t r f p) {g : Int} (hg : t % 2 = g) : GetOK g (mB t r f p).data.toList ∧ getV g (mB t r f p).data.toList = metaV t r f p ∧ getN g (mB t r f p).data.toList 0 = t := by
  subst hg
  have h1 := put_get h
  rw [putB, if_pos h] at h1
  rw [mB_list]
  refine ⟨?_, h1.2⟩
  have h2 : GetOK ((t.toNat % 2 : Nat) : Int) (mpage t.toNat r.toNat f.toNat p.toNat) := mpage_get (by have := h.1.2; have := h.1.1; omega)
  rwa [show ((t.toNat % 2 : Nat) : Int) = t % 2 by have := h.1.1; omega] at h2
/-- The newest of two: the one on page 0, or the one on page 1. -/
theorem newest0 {t r f p : Int} (h : MetaOK t r f p) (hg : t % 2 = 0) {y : List UInt8} (hy : ¬ GetOK 1 y ∨ getN 1 y 0 < t) : choV 0 0 (mB t r f p).data.toList y = metaV t r f p ∧ choE 0 0 (mB t r f p).data.toList y = 0 := by
  obtain ⟨h1, h2, h3⟩ := mB_get h hg
  refine ⟨?_, choE_in (.inl h1)⟩
  rw [choV_first, h2]
  rintro ⟨h4, h5⟩
  have := h5 h1
  rw [h3] at this
  exact hy.elim (fun h => h h4) (fun h => by omega)
theorem newest1 {t r f p : Int} (h : MetaOK t r f p) (hg : t % 2 = 1) {x : List UInt8} (hx : ¬ GetOK 0 x ∨ getN 0 x 0 < t) : choV 0 0 x (mB t r f p).data.toList = metaV t r f p ∧ choE 0 0 x (mB t r f p).data.toList = 0 := by
  obtain ⟨h1, h2, h3⟩ := mB_get h hg
  refine ⟨?_, choE_in (.inr h1)⟩
  rw [choV_second h1, h2]
  intro h4
  rw [h3]
  exact hx.elim (fun h => absurd h4 h) id

/-- Write of a meta onto such a device. -/
theorem Two.mwrite {s : DevS} {X Y : ByteArray} {n : Nat} (h : Two s X Y n) (hn : n ≤ 1000) (t r f p : Int) (hok : MetaOK t r f p) :
    ∃ s', Two s' (if t % 2 = 0 then mB t r f p else X) (if t % 2 = 0 then Y else mB t r f p) (n + 1) ∧ s'.synced = s.synced ∧ s'.line = s.line ++ [(t % 2, mB t r f p)] ∧
      ∀ B q w L W, DevRun B w q s L W → Calls Tryd.prog 17 #[.pointer (some ⟨q, 0, none⟩), metaV t r f p] W fun e w' => e = .returned (.int .i64 0) ∧ DevRun B w q s' L w' := by
  obtain ⟨⟨a0, a1⟩, ⟨b0, b1⟩, ⟨c0, c1⟩, ⟨d0, d1⟩⟩ := hok
  have hok : MetaOK t r f p := ⟨⟨a0, a1⟩, ⟨b0, b1⟩, ⟨c0, c1⟩, ⟨d0, d1⟩⟩
  have hc := fun B q w L W hr => mwrite_run B q w s L W hr t r f p (by unfold IsInt; omega) (by unfold IsInt; omega) (by unfold IsInt; omega) (by unfold IsInt; omega) hok (h.capIn hn)
  by_cases hg : t % 2 = 0
  · obtain ⟨e1, e2, e3⟩ := h.write0 (mB_size t r f p)
    rw [hg, e1, e2] at hc
    rw [if_pos hg, if_pos hg, hg]
    exact ⟨_, e3, rfl, rfl, hc⟩
  · obtain ⟨e1, e2, e3⟩ := h.write1 (mB_size t r f p)
    have hg1 : t % 2 = 1 := by omega
    rw [hg1, e1, e2] at hc
    rw [if_neg hg, if_neg hg, hg1]
    exact ⟨_, e3, rfl, rfl, hc⟩
theorem Two.mchoose {s : DevS} {X Y : ByteArray} {n : Nat} (h : Two s X Y n) (B q : Nat) (w : World) (L : List (Nat × TypeId × Array Value)) (W : World) (hr : DevRun B w q s L W) :
    Calls Tryd.prog 18 #[.pointer (some ⟨q, 0, none⟩)] W fun e w' => e = .returned (.tuple #[choV 0 0 X.data.toList Y.data.toList, .int .i64 (choE 0 0 X.data.toList Y.data.toList)]) ∧ DevRun B w q s L w' := by
  have := choose_run B q w s L W hr
  rwa [h.choose.1, h.choose.2] at this
theorem grow2_run (B q : Nat) (w : World) (L : List (Nat × TypeId × Array Value)) (W : World) (hr : DevRun B w q (newS 2) L W) :
    Calls Tryd.prog 13 #[.pointer (some ⟨q, 0, none⟩), .int .i64 2] W fun e w' => e = .returned (.int .i64 0) ∧ DevRun B w q (longer (newS 2) 2) L w' := by
  have := grow_run B q w (newS 2) L W hr 2
  rwa [grown2.1, grown2.2] at this
end Go.Proofs.YthcpjpebahiikaaDoor

namespace Go.Proofs.YthcpjpebahiikaaDoor
open Go.RowKit Go.Lib

theorem filled_get (g : Int) : ¬ GetOK g (filledB 120 0).data.toList := by
  rintro ⟨h1, h2, -⟩
  rw [openK, if_pos h1] at h2
  have h3 : fld (filledB 120 0).data.toList 0 1 ≠ 1 := by decide +kernel
  omega

set_option maxRecDepth 100000 in
set_option maxHeartbeats 2000000 in
theorem alive_walk (w : World) : Calls Tryd.prog 4 #[] w fun e w' => e = .returned (.bool true) ∧ Below w.heap.size w w' := by
  have ok4 : MetaOK 4 2 0 0 := by unfold MetaOK Fits6; omega
  have ok5 : MetaOK 5 3 0 0 := by unfold MetaOK Fits6; omega
  obtain ⟨s1, t1, -, -, c1⟩ := Two.new.mwrite (by omega) 4 2 0 0 ok4
  replace t1 : Two s1 (mB 4 2 0 0) blank 1 := t1
  obtain ⟨s2, t2, -, -, c2⟩ := t1.mwrite (by omega) 5 3 0 0 ok5
  replace t2 : Two s2 (mB 4 2 0 0) (mB 5 3 0 0) 2 := t2
  obtain ⟨e1, e2, t3⟩ := t2.write1 (filledB_size 120 0)
  have c3 := fun B q w L W hr => write_run B q w s2 L W hr 1 (filledB 120 0) (t2.capIn (by omega))
  rw [e1, e2] at c3
  have v2 := t2.mchoose
  have n2 := newest1 ok5 (by decide) (x := (mB 4 2 0 0).data.toList) (.inr (by rw [(mB_get ok4 (by decide)).2.2]; decide))
  rw [n2.1, n2.2] at v2
  have v3 := t3.mchoose
  have n3 := newest0 ok4 (by decide) (y := (filledB 120 0).data.toList) (.inl (filled_get 1))
  rw [n3.1, n3.2] at v3
  have C1 := Lib.hid c1
  have C2 := Lib.hid c2
  have C3 := Lib.hid c3
  have V2 := Lib.hid v2
  have V3 := Lib.hid v3
  have HF := Lib.hid fun w => filledB_any 120 0 w (by omega)
  clear ok4 ok5 t1 t2 t3 c1 c2 c3 e1 e2 v2 v3 n2 n3
  unfold metaV at C1 C2 V2 V3
  generalize filledB 120 0 = Z at *
  generalize wroteS s2 1 Z = s3 at *
  go_enter Tryd.func4, Tryd.ntmps4
  go_wp2_with fail
  refine (new_run 2 w (by omega) (by omega)).mono ?_
  rintro e w1 ⟨rfl, hd⟩
  have H := Lib.hid hd
  clear hd
  go_wp2_with fail
  refine (grow2_run _ _ _ _ _ H.out).mono ?_
  rintro e w2 ⟨rfl, hd⟩
  have H2 := Lib.hid hd
  clear hd H
  go_wp2_with fail
  refine (C1.out _ _ _ _ _ H2.out).mono ?_
  rintro e w3 ⟨rfl, hd⟩
  have H3 := Lib.hid hd
  clear hd H2
  go_wp2_with fail
  refine (C2.out _ _ _ _ _ H3.out).mono ?_
  rintro e w4 ⟨rfl, hd⟩
  have H4 := Lib.hid hd
  clear hd H3
  go_wp2_with fail
  refine (V2.out _ _ _ _ _ H4.out).mono ?_
  rintro e w5 ⟨rfl, hd⟩
  have H5 := Lib.hid (hd.made 23 #[.int .i64 5, .int .i64 3, .int .i64 0, .int .i64 0])
  clear hd H4
  go_wp2_with fail
  refine (HF.out _).mono ?_
  rintro e w6 ⟨rfl, hb⟩
  have H6 := Lib.hid (H5.out.below hb)
  clear hb H5
  go_wp2_with fail
  refine (C3.out _ _ _ _ _ H6.out).mono ?_
  rintro e w7 ⟨rfl, hd⟩
  have H7 := Lib.hid hd
  clear hd H6
  go_wp2_with fail
  refine (V3.out _ _ _ _ _ H7.out).mono ?_
  rintro e w8 ⟨rfl, hd⟩
  have hm := hd.made 23 #[.int .i64 4, .int .i64 2, .int .i64 0, .int .i64 0]
  obtain ⟨⟨a0, a1, a2, a3⟩, -⟩ := (hm.side (.tail _ (.head _))).four
  obtain ⟨⟨b0, b1, b2, b3⟩, -⟩ := (hm.side (.head _)).four
  have H8 := Lib.hid hm.out
  clear hd H7 hm
  go_wp2_with (go_at_call 7; refine (place_any _ _).mono ?_; rintro e w9 ⟨rfl, rfl⟩)
  go_ret
  exact ⟨rfl, H8.out⟩
end Go.Proofs.YthcpjpebahiikaaDoor
