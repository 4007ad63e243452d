/-
  Walks over package dev's line of waiting writes: a twin is made.
-/
import Derived.Test.YtlmhhoijbebcbaaL3
namespace Go.Proofs.Ytlmhhoijbebcbaa
open Go.RowKit Go.Lib

/-- Where the making of a twin stands: done lies in the twin already, rest not yet. -/
def Twinning (w : World) (g : Nat) (t : TypeId) (cs : Array Value) (o cap : Nat) (ch : Option Nat) (l : List (Int × ByteArray)) (i : Value) (wr : World) : Prop :=
  ∃ (done rest : List (Int × ByteArray)) (cap' : Nat) (ch' : Option Nat), i = .int .i64 (done.length : Int) ∧ done ++ rest = l ∧ LineAt wr g t cs o (rest ++ done) cap ch ∧ LineAt wr (w.heap.size + 1) 48 #[.chan ch'] 0 done cap' ch' ∧
    cap' ≤ 16 + 2 * done.length ∧ Kept ch.toList w wr ∧ Has wr w.heap.size 48 #[.chan none] ∧ ∀ c', ch' = some c' → w.heap.size + 2 ≤ c'

/-- What the making of a twin comes to. -/
def Twins (g : Nat) (t : TypeId) (cs : Array Value) (o : Nat) (l : List (Int × ByteArray)) (cap : Nat) (ch : Option Nat) (w : World) (e : Ending) (w' : World) : Prop :=
  ∃ (cap' : Nat) (ch' : Option Nat), e = .returned (.agg #[.chan ch']) ∧ LineAt w' g t cs o l cap ch ∧ Kept ch.toList w w' ∧ cap' ≤ 16 + 2 * l.length ∧ (∀ c', ch' = some c' → w.heap.size ≤ c') ∧
    (ch' = none → l = [] ∧ cap' = 0) ∧ (∀ c, ch' = some c → ∃ s r, w'.heap[c]? = some (chanOf cap' l s r)) ∧ l.length ≤ cap' ∧ ∀ c, ch' = some c → 16 ≤ cap'

theorem LineAt.chlt {w : World} {g : Nat} {t : TypeId} {cs : Array Value} {o : Nat} {l : List (Int × ByteArray)} {cap c : Nat} (h : LineAt w g t cs o l cap (some c)) : c < w.heap.size := by
  obtain ⟨s1, r1, h1⟩ := h.full c rfl
  exact (Array.getElem?_eq_some_iff.1 h1).1

set_option maxRecDepth 1000000 in
set_option maxHeartbeats 800000 in
theorem ltwin_any (g : Nat) (t : TypeId) (cs : Array Value) (o : Nat) (l : List (Int × ByteArray)) (cap : Nat) (ch : Option Nat) (w : World) (h : LineAt w g t cs o l cap ch) (hl : l.length ≤ 10000000000) :
    Calls Try.prog 34 #[.pointer (some ⟨g, o, none⟩)] w (Twins g t cs o l cap ch w) := by
  have hk0 : Kept [] w ((w.alloc (.cells #[.chan none] 48)).alloc (.cells #[.chan none] 48)) := ((Kept.refl _ _).alloc _).alloc _
  have hC := count_any g t cs o l cap ch _ (h.kept hk0 (by simp) (by simp))
  have hst : Twinning w g t cs o cap ch l (.int .i64 0) ((w.alloc (.cells #[.chan none] 48)).alloc (.cells #[.chan none] 48)) :=
    ⟨[], l, 0, none, rfl, rfl, by simpa using h.kept hk0 (by simp) (by simp), ⟨by simpa using Has.made (w.alloc (.cells #[.chan none] 48)) 48 #[.chan none], rfl, fun _ => ⟨rfl, rfl⟩, (fun c e => by cases e), by simp, (fun c e => by cases e)⟩,
      by omega, hk0.mono (by simp), (Has.made _ _ _).alloc _, (fun c e => by cases e)⟩
  have HST := Lib.hid hst
  have H := Lib.hid h
  have hgl := h.has.inside
  clear hst hk0 h
  go_enter Try.func34, Try.ntmps34
  go_wp2_with (go_at_call 32; refine hC.mono ?_; rintro e w' ⟨rfl, rfl⟩)
  clear hC
  go_loopw [8] (fun i wr => Twinning w g t cs o cap ch l i wr) (fun i _ => l.length - (RowKit.intOf i).toNat)
  case atStart => exact HST.out
  case round =>
    clear HST
    obtain ⟨done, rest, cap', ch', rfl, hlr, hlg, hlt, hcap', hkw, hres, hch'⟩ := hrel
    have hsw := hkw.size
    have hti := hlt.has.inside
    rcases rest with _ | ⟨⟨x, d⟩, rest⟩
    · have hlen : done.length = l.length := by rw [← hlr]; simp
      have k0 := hlt.has.cell 0
      have r0 := hres.cell 0
      have f0 := hres.free 0
      simp at k0 r0
      have hge : ¬ ((done.length : Int) < (l.length : Int)) := by omega
      have HX := Lib.hid (And.intro hlr (And.intro hlg (And.intro hlt (And.intro hkw (And.intro hres hch')))))
      have hri := hres.inside
      clear hlr hlg hlt hkw hres hch' hlen
      go_wp2
      obtain ⟨q1, q2, q3, q4, q5, q6⟩ := HX.out
      rw [List.append_nil] at q1
      subst q1
      rw [List.nil_append] at q2
      have hkr : Kept [w.heap.size] wr (wr.setCell ⟨w.heap.size, 0, none⟩ (.chan ch')) := (Kept.refl _ _).setCell (.inl (by simp)) _
      have hq : ∀ c', ch' = some c' → c' < wr.heap.size := fun c' e => by subst e; exact q3.chlt
      refine bodyPost_ret (v := .agg #[.chan ch']) (by simp [results, Try.results34, go_sem, r0]) rfl ⟨cap', ch', rfl, ?_, q4.then_ hkr (by simp), hcap', fun c' e => by have := q6 c' e; omega, q3.nil_, fun c' e => ?_, q3.le, q3.wide⟩
      · refine q2.kept hkr ?_ ?_
        · simp; omega
        · intro c' e
          subst e
          have := H.out.chlt
          simp
          omega
      · obtain ⟨s1, r1, h1⟩ := q3.full c' e
        have := q6 c' e
        exact ⟨s1, r1, chan_kept h1 hkr (by simp; omega)⟩
    · have hlen : done.length < l.length := by rw [← hlr]; simp
      obtain ⟨c, rfl⟩ : ∃ c, ch = some c := by
        cases ch with
        | none => have := (hlg.nil_ rfl).1; simp at this
        | some c => exact ⟨c, rfl⟩
      have hT := take_some g t cs o x d (rest ++ done) cap c wr hlg
      have HX := Lib.hid (And.intro hlr (And.intro hlg (And.intro hlt (And.intro hkw (And.intro hres hch')))))
      have hlen' : (done.length : Int) < (l.length : Int) := by omega
      clear hlr hlg hlt hkw hres hch' hlen
      go_wp2_with fail
      refine hT.mono ?_
      rintro e w1 ⟨rfl, hl1, hk1⟩
      have hcl : c < w.heap.size := H.out.chlt
      have hle : (rest ++ done).length < cap := by
        have := HX.out.2.1.le
        simp at this ⊢
        omega
      have hP := put_room g t cs o x d (rest ++ done) cap c (w1.alloc (.cells #[.int .i64 x, .string d] 56)) (hl1.kept ((Kept.refl [] _).alloc _) (by simp) (by simp)) hle
      have hm := Has.made w1 56 #[.int .i64 x, .string d]
      have HK1 := Lib.hid hk1
      have HM := Lib.hid hm
      clear hl1 hk1 hm hle hT
      go_wp2_with fail
      refine hP.mono ?_
      rintro e w2 ⟨rfl, hl2, hk2⟩
      have hs1 := HK1.out.size
      have hs2 := hk2.size
      simp only [World.size_alloc] at hs2
      have hm2 := HM.out.kept hk2 (by simp; omega)
      have m0 := hm2.cell 0
      have m1 := hm2.cell 1
      simp at m0 m1
      have hk13 : Kept [c] wr w2 := (HK1.out.alloc _).trans hk2
      obtain ⟨q1, q2, q3, q4, q5, q6⟩ := HX.out
      have hP2 := put_any (w.heap.size + 1) 48 #[.chan ch'] 0 x d done cap' ch' w2 (q3.kept hk13 (by simp; omega) (fun c' e => by have := q6 c' e; simp; omega)) (by omega)
      have HL2 := Lib.hid (And.intro hl2 hk13)
      clear hl2 hk2 hk13 hm2 q1 q2 q3 q4 q5 q6 hP
      go_wp2_with fail
      refine hP2.mono ?_
      rintro e w3 ⟨rfl, c', hc', hl3, hk3⟩
      have hs3 := hk3.size
      have HX3 := Lib.hid (And.intro hc' (And.intro hl3 hk3))
      have hdl : (done.length : Int) + 1 ≤ l.length := by omega
      clear hc' hl3 hk3 hP2 m0 m1
      go_wp2
      go_roundw
      case measure => simp [RowKit.intOf]; omega
      case rel =>
        obtain ⟨q1, q2, q3, q4, q5, q6⟩ := HX.out
        obtain ⟨z1, z2, z3⟩ := HX3.out
        obtain ⟨y1, y2⟩ := HL2.out
        have hcn : ∀ i ∈ (w.heap.size + 1) :: ch'.toList, w.heap.size + 1 ≤ i := by
          intro i hi
          rcases List.mem_cons.1 hi with e | e
          · omega
          · have := q6 i (by simpa using e)
            omega
        have hgn : g ∉ (w.heap.size + 1) :: ch'.toList := fun hi => by have := hcn g hi; omega
        refine ⟨done ++ [(x, d)], rest, roomed done cap', some c', by simp, by rw [← q1]; simp, ?_, z2, ?_, (q4.trans y2).then_ z3 (fun i hi => .inr (by have := hcn i hi; omega)), (q5.kept y2 (by simp; omega)).kept z3 (fun hi => by have := hcn _ hi; omega), fun c2 e => ?_⟩
        · rw [← List.append_assoc]
          exact y1.kept z3 hgn (fun c2 e => by cases e; exact fun hi => by have := hcn _ hi; omega)
        · unfold roomed
          simp only [List.length_append, List.length_singleton]
          split <;> omega
        · cases e
          rcases z1 with e | e
          · exact q6 c' e
          · have := hsw
            omega
end Go.Proofs.Ytlmhhoijbebcbaa
