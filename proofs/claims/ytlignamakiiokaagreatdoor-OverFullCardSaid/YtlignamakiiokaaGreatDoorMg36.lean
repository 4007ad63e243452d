/-
  strings.Builder at this program: copyCheck, WriteString (the kit's layings of both do not fit here). strings.Builder at this program, beside other objects, which stay.
-/
import Derived.Test.YtlignamakiiokaaGreatDoorMg13
import Derived.Test.YtlignamakiiokaaGreatDoorMg2
import Derived.Test.YtlignamakiiokaaGreatDoorMg35
import Derived.Lib.Builder
import Derived.Laws.Externs
namespace Go.Proofs.YtlignamakiiokaaGreatDoor
open Go.RowKit Go.Lib

theorem Tryz.underlyingPB : Tryz.prog.underlying 177 = some (.pointer 179) := by kernel_rfl
theorem Tryz.underlyingUns : Tryz.prog.underlying 283 = some .unsafePointer := by kernel_rfl
theorem Tryz.sizeBld : (Tryz.prog.info? 179).map (·.size) = some 2 := by kernel_rfl
theorem Tryz.liesBld : liesAt Tryz.prog Tryz.prog.depth 179 (2 / Tryz.prog.cellsOf 179) 0 179 1 = true := by kernel_rfl


end Go.Proofs.YtlignamakiiokaaGreatDoor

namespace Go.Proofs.YtlignamakiiokaaGreatDoor
open Go.RowKit Go.Lib

/-- What stands beside a builder: objects of other types than bytes, and not the builder's own, stay. -/
def KeepsBut (b : Nat) (w w' : World) : Prop := ∀ g t cs, g ≠ b → t ≠ 5 → Has w g t cs → Has w' g t cs
theorem KeepsBut.refl (b : Nat) (w : World) : KeepsBut b w w := fun _ _ _ _ _ h => h
theorem KeepsBut.trans {b : Nat} {w w1 w2 : World} (h : KeepsBut b w w1) (k : KeepsBut b w1 w2) : KeepsBut b w w2 := fun g t cs h1 h2 h3 => k g t cs h1 h2 (h g t cs h1 h2 h3)
theorem keepsBut_set {b : Nat} {w : World} (u : Value) : KeepsBut b w (w.setCell ⟨b, 0, none⟩ u) := fun _ _ _ h1 _ h => h.past (by exact h1) u
theorem keepsBut_set1 {b : Nat} {w : World} (u : Value) : KeepsBut b w (w.setCell ⟨b, 1, none⟩ u) := fun _ _ _ h1 _ h => h.past (by exact h1) u
theorem keepsBut_grown {B b : Nat} {w w' : World} {v : Value} {n : Nat} {xs : List Value} (hr : w.ownsRow B 5 1 v n xs) (hg : w.grownBy w' v.ownBlock) : KeepsBut b w w' := by
  intro g t cs _ ht h
  refine h.grown hg fun e => ?_
  rcases hr.2 with ⟨rfl, _⟩ | ⟨g', cap, cur, rfl, _, hgc, _⟩
  · simp [Value.ownBlock] at e
  · simp [Value.ownBlock] at e
    subst e
    have h3 : w.heap[g]? = _ := h
    rw [hgc] at h3
    simp at h3
    exact ht h3.2.symm
theorem KeepsBut.below {b : Nat} {w w' : World} (h : Below w.heap.size w w') : KeepsBut b w w' := fun _ _ _ _ _ k => k.below h k.inside

set_option maxRecDepth 100000 in
set_option maxHeartbeats 1000000 in
theorem bcheck_keeps {B b : Nat} {bs : List Value} {w : World} (h : Lib.IsBuilder 179 5 B b bs w) :
    Calls Tryz.prog 164 #[.pointer (some ⟨b, 0, none⟩)] w fun e w' => e = .returned (.tuple #[]) ∧ Lib.BuilderAt 179 5 B b (.pointer (some ⟨b, 0, none⟩)) bs w' ∧ Below B w w' ∧ KeepsBut b w w' := by
  obtain ⟨j, hj, hjs⟩ := Option.map_eq_some_iff.1 Tryz.sizeBld
  rcases h with h | h
  · have hsh := h.shape
    have h0 := h.cell0
    have hfz := h.frozen0
    have H := Lib.hid h
    have HJ := Lib.hid hjs
    clear h hjs
    go_enter Tryz.func164, Tryz.ntmps164
    go_wp2_with fail
    rw [Lib.run_to_unsafe w ⟨b, 0, none⟩ Tryz.underlyingPB Tryz.underlyingUns hj (by rw [HJ.out]; decide) hsh (Nat.zero_lt_succ 1)]
    simp only [Result.andThen]
    rw [Oper.upon_value]
    go_wp2_with fail
    rw [run_callFunc_extern Tryz.func197 (by kernel_rfl) (by kernel_rfl) (by kernel_rfl) (e := Extern.AbiNoEscape.same) (by kernel_rfl)]
    rw [Lib.run_noEscape]
    simp only [Result.andThen]
    rw [Oper.upon_value]
    go_wp2_with fail
    rw [Lib.run_from_unsafe w ⟨b, 0, none⟩ Tryz.underlyingUns Tryz.underlyingPB hj hsh Tryz.liesBld]
    simp only [Result.andThen]
    rw [Oper.upon_value]
    go_wp2_with fail
    go_end0
    exact ⟨rfl, H.out.used _, (Below.refl B w).setCell (p := ⟨b, 0, none⟩) H.out.1 _, keepsBut_set _⟩
  · have H := Lib.hid h
    have h0 := h.cell0
    clear h hjs
    go_enter Tryz.func164, Tryz.ntmps164
    go_wp2_with fail
    rw [Lib.run_neq_ptr_same w _ Tryz.underlyingPB hj]
    go_wp2_with fail
    go_end0
    exact ⟨rfl, H.out, Below.refl _ _, KeepsBut.refl _ _⟩

set_option maxRecDepth 100000 in
set_option maxHeartbeats 1000000 in
theorem bwrite_keeps {B b : Nat} {m : List UInt8} {w : World} (s : ByteArray) (h : Lib.IsBuilder 179 5 B b (byteCells m) w) (hm : m.length ≤ 1000000) (hs : s.size ≤ 1000000) :
    Calls Tryz.prog 121 #[.pointer (some ⟨b, 0, none⟩), .string s] w fun e w' => e = .returned (.tuple #[.int .i64 s.size, .nilIface]) ∧ Lib.BuilderAt 179 5 B b (.pointer (some ⟨b, 0, none⟩)) (byteCells (m ++ s.data.toList)) w' ∧ Below B w w' ∧ KeepsBut b w w' := by
  have hc := bcheck_keeps h
  go_enter Tryz.func121, Tryz.ntmps121
  clear h
  go_wp2_with fail
  refine hc.mono ?_
  rintro e w1 ⟨rfl, hb, hb1, hkb⟩
  have HKB := Lib.hid hkb
  clear hkb
  have H := Lib.hid (And.intro hb hb1)
  obtain ⟨hB, v, hg, hrow, hv⟩ := hb
  have hh : Has w1 b 179 #[.pointer (some ⟨b, 0, none⟩), v] := hg
  have c0 : w1.cell? ⟨b, 1, none⟩ = some v := hh.cell 1
  obtain ⟨i0, hi0, hz0, hz1, hz2⟩ := info_parts Tryz.infoU8
  have hbw : B ≤ w1.heap.size := Nat.le_trans hB (Nat.le_of_lt hh.inside)
  have hlen : (byteCells m).length = m.length := by simp [byteCells]
  rw [hlen] at hrow
  have HH := Lib.hid (And.intro hh (And.intro hv (And.intro hrow hlen)))
  clear hc hb1 hg hh hv hB hlen
  go_wp2_with (at_builtin; refine wpList_append_own_string w1 rfl _ _ 85 9 rfl B 5 i0 Tryz.underlying85 Tryz.underlying9 hi0 hz0 hz1 hz2 v m.length (byteCells m) rfl hrow s rfl (by unfold maxLen; omega) (by omega) hbw ?_; intro v2 w2 hr2 hg2 _; obtain ⟨A2, c2, hv2⟩ := rform3 hr2; have hh2 := HH.out.1.grown hg2 (fun e => HH.out.2.1 e.symm); have d1 : w2.cell? ⟨b, 1, none⟩ = some v := hh2.cell 1; have d2 := hh2.free 1; have H2 := Lib.hid (And.intro hr2 (And.intro hg2 hh2)); subst hv2; clear hr2 hg2 hh2)
  obtain ⟨hr2, hg2, hh2⟩ := H2.out
  obtain ⟨hb0, hb1⟩ := H.out
  have hbB := hb0.1
  have hlt := HH.out.1.inside
  have hne : (Value.slice A2 (m.length + s.size) c2).ownBlock ≠ some b := by
    intro e
    rcases hr2.2 with ⟨h0, _⟩ | ⟨g, cap, cur, h0, _, hgc, _⟩
    · rw [h0] at e; simp [Value.ownBlock] at e
    · rw [h0] at e
      simp [Value.ownBlock] at e
      subst e
      have h3 : w2.heap[g]? = _ := hh2
      rw [hgc] at h3
      simp at h3
  go_ret2
  refine ⟨rfl, ⟨hbB, _, hh2.put 1 _, ?_, hne⟩, ?_, ?_⟩
  · have hr3 := row_kept hr2 ((Kept.refl [b] w2).setCell (p := ⟨b, 1, none⟩) (.inl (by simp)) (.slice A2 (m.length + s.size) c2)) (fun g hg hin => hne (by simp at hin; rw [← hin]; exact hg))
    have hl2 : (byteCells (m ++ s.data.toList)).length = m.length + s.size := by simp [byteCells]
    rw [hl2, byteCells_append]
    exact hr3
  · exact (hb1.trans ((Below.refl B w1).grown hg2 (Nat.le_trans hbB (Nat.le_of_lt hlt)) (fun k hk => (HH.out.2.2.1.lt k hk).1))).setCell (p := ⟨b, 1, none⟩) hbB _
  · exact (HKB.out.trans (keepsBut_grown HH.out.2.2.1 hg2)).trans (keepsBut_set1 _)
end Go.Proofs.YtlignamakiiokaaGreatDoor
