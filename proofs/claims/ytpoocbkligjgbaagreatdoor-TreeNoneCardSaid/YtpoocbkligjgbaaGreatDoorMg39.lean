/-
  Where a tree's first page can't be loaded: all calls tell that error, and leave all. A survey of a tree: where its first page can't be loaded. A survey of a tree that is one leaf without items: it is one page high. The first calls of tree whose answers the document fixes. alive: the first calls of tree whose answers the document fixes. A tree's calls of a nil pager.
-/
import Derived.Test.YtpoocbkligjgbaaGreatDoorMg36
import Derived.Test.YtpoocbkligjgbaaGreatDoorMg38
import Derived.Test.YtpoocbkligjgbaaGreatDoorMg16
namespace Go.Proofs.YtpoocbkligjgbaaGreatDoor
open Go.RowKit Go.Sort Go.Lib

/-- From w on the page can't be loaded: that error. -/
def NoLd (q : Option Addr) (id r : Int) (w : World) : Prop := r ≠ 0 ∧ ∀ w1, Below w.heap.size w w1 → Calls Tryz.prog 107 #[.pointer q, .int .i64 id, .int .i64 1] w1 fun e w' => e = .returned (.tuple #[.agg #[.slice none 0 0, .slice none 0 0], .int .i64 r]) ∧ Below w1.heap.size w1 w'
theorem NoLd.below {q : Option Addr} {id r : Int} {w w' : World} (h : NoLd q id r w) (hb : Below w.heap.size w w') : NoLd q id r w' := ⟨h.1, fun w1 h1 => h.2 w1 (hb.trans (h1.mono hb.size))⟩

section
variable {q : Option Addr} {id r : Int} {w : World}

set_option maxRecDepth 100000 in
set_option maxHeartbeats 4000000 in
theorem down_err (key : ByteArray) (h : NoLd q id r w) : Calls Tryz.prog 63 #[.pointer q, .int .i64 id, .string key] w fun e w' => e = .returned (.tuple #[.agg #[.slice none 0 0, .int .i64 0, .slice none 0 0], .int .i64 r]) ∧ Below w.heap.size w w' := by
  have hz := alloc_below (w := w) (.cells #[.slice none 0 0, .int .i64 0, .slice none 0 0] 122)
  have hN := Has.made w 122 #[.slice none 0 0, .int .i64 0, .slice none 0 0]
  have hld := h.2 _ hz
  have g4 : (r != 0) = true := by simpa using h.1
  have HB := Lib.hid (And.intro hz hN)
  clear hz hN h
  go_enter Tryz.func63, Tryz.ntmps63
  go_wp2_with fail
  go_loopg [8, 9, 10] 0 (fun g sv iv lv wr => sv = .slice none 0 0 ∧ iv = .int .i64 id ∧ lv = .int .i64 1 ∧ w.alloc (.cells #[.slice none 0 0, .int .i64 0, .slice none 0 0] 122) = wr)
  case atStart => exact ⟨rfl, rfl, rfl, rfl⟩
  case round =>
    obtain ⟨rfl, rfl, rfl, rfl⟩ := hrel
    go_wp2_with fail
    refine hld.mono ?_
    rintro e w1 ⟨rfl, hb1⟩
    obtain ⟨hz, hN⟩ := HB.out
    have hba := alloc_below (w := w1) (.cells #[.slice none 0 0, .slice none 0 0] 197)
    have hb2 := hb1.trans (hba.mono hb1.size)
    have hz3 := hN.below hb2 hN.inside
    have y0 := hz3.free 0
    have y1 := hz3.free 1
    have y2 := hz3.free 2
    have z0 := hz3.cell 0
    have z1 := hz3.cell 1
    have z2 := hz3.cell 2
    simp at z0 z1 z2
    have H1 := Lib.hid (And.intro hz3 (hz.trans (hb2.mono hz.size)))
    clear hz hN hba hb1 hb2 hz3 hld
    go_wp2_with fail
    obtain ⟨hz3, hbw⟩ := H1.out
    have hP := hz3.put3 (.slice none 0 0) (.int .i64 0) (.slice none 0 0)
    have e0 := hP.cell 0
    have e1 := hP.cell 1
    have e2 := hP.cell 2
    simp at e0 e1 e2
    exact bodyPost_ret (v := .tuple #[.agg #[.slice none 0 0, .int .i64 0, .slice none 0 0], .int .i64 r]) (by simp [results, Tryz.results63, go_sem, e0, e1, e2]) rfl ⟨rfl, below_put3 hbw (Nat.le_refl _) _ _ _⟩

set_option maxRecDepth 100000 in
set_option maxHeartbeats 1000000 in
theorem trget_err (key : ByteArray) (hk : 1 ≤ key.size ∧ key.size ≤ 40) (h : NoLd q id r w) : Calls Tryz.prog 23 #[.pointer q, .int .i64 id, .string key] w fun e w' => e = .returned (.tuple #[.string ⟨#[]⟩, .int .i64 r]) ∧ Below w.heap.size w w' := by
  have hr := trright_any key w
  rw [decide_eq_true hk] at hr
  have hd := down_err key h
  have g4 : (r != 0) = true := by simpa using h.1
  clear h hk
  go_enter Tryz.func23, Tryz.ntmps23
  go_wp2_with fail
  refine hr.mono ?_
  rintro e w1 ⟨rfl, rfl⟩
  clear hr
  go_wp2_with fail
  refine hd.mono ?_
  rintro e w1 ⟨rfl, hb⟩
  have hba := alloc_below (w := w1) (.cells #[.slice none 0 0, .int .i64 0, .slice none 0 0] 122)
  have HB := Lib.hid (hb.trans (hba.mono hb.size))
  clear hd hb hba
  go_wp2_with fail
  go_ret2
  exact ⟨rfl, HB.out⟩

set_option maxRecDepth 100000 in
set_option maxHeartbeats 1000000 in
theorem trdropAll_nil (q : Option Addr) (w : World) : Calls Tryz.prog 73 #[.pointer q, .slice none 0 0] w fun e w' => e = .returned (.tuple #[]) ∧ w = w' := by
  go_enter Tryz.func73, Tryz.ntmps73
  go_wp2_with fail
  go_loopg [8] 0 (fun g iv wr => iv = .int .i64 0 ∧ w = wr)
  case atStart => exact ⟨rfl, rfl⟩
  case round =>
    obtain ⟨rfl, rfl⟩ := hrel
    go_wp2_with fail
    go_end0
    exact ⟨rfl, rfl⟩

set_option maxRecDepth 100000 in
set_option maxHeartbeats 2000000 in
/-- The end of a change for which nothing was made. -/
theorem chend_err {cb : Nat} (i : Int) (hr : r ≠ 0) (h : Has w cb 83 #[.pointer q, .slice none 0 0, .slice none 0 0]) : Calls Tryz.prog 42 #[.pointer (some ⟨cb, 0, none⟩), .int .i64 i, .int .i64 r] w fun e w' => e = .returned (.tuple #[.int .i64 0, .int .i64 r]) ∧ Below w.heap.size w w' := by
  have g4 : (r != 0) = true := by simpa using hr
  have q0 := h.cell 0
  have q1 := h.cell 1
  simp at q0 q1
  have k0 : w.drew.cell? ⟨cb, 0, none⟩ = some (.pointer q) := q0
  have k1 : w.drew.cell? ⟨cb, 1, none⟩ = some (.slice none 0 0) := q1
  have hdr := trdropAll_nil q w.drew
  clear h hr
  go_enter Tryz.func42, Tryz.ntmps42
  go_wp2_with fail
  clear q0 q1
  go_region_held3 (fun w' => w'.cell? ⟨cb, 0, none⟩ = some (.pointer q) ∧ w'.cell? ⟨cb, 1, none⟩ = some (.slice none 0 0)) (first | exact ⟨k0, k1⟩) (first
    | (go_at_call 73; refine hdr.mono ?_; rintro e w1 ⟨rfl, rfl⟩))
  clear k0 k1 hdr
  go_wp2_with fail
  go_ret2
  exact ⟨rfl, (Below.refl _ _).drew⟩

set_option maxRecDepth 100000 in
set_option maxHeartbeats 1000000 in
theorem chput_err {cb : Nat} (key v : ByteArray) (h : NoLd q id r w) (hh : Has w cb 83 #[.pointer q, .slice none 0 0, .slice none 0 0]) : Calls Tryz.prog 43 #[.pointer (some ⟨cb, 0, none⟩), .int .i64 id, .string key, .string v] w fun e w' => e = .returned (.tuple #[.int .i64 0, .int .i64 r]) ∧ Below w.heap.size w w' := by
  have hd := down_err key h
  have g4 : (r != 0) = true := by simpa using h.1
  have q0 := hh.cell 0
  simp at q0
  clear h hh
  go_enter Tryz.func43, Tryz.ntmps43
  go_wp2_with fail
  refine hd.mono ?_
  rintro e w1 ⟨rfl, hb⟩
  have hba := alloc_below (w := w1) (.cells #[.slice none 0 0, .int .i64 0, .slice none 0 0] 122)
  have HB := Lib.hid (hb.trans (hba.mono hb.size))
  clear hd hb hba
  go_wp2_with fail
  go_ret2
  exact ⟨rfl, HB.out⟩
set_option maxRecDepth 100000 in
set_option maxHeartbeats 1000000 in
theorem chdel_err {cb : Nat} (key : ByteArray) (h : NoLd q id r w) (hh : Has w cb 83 #[.pointer q, .slice none 0 0, .slice none 0 0]) : Calls Tryz.prog 46 #[.pointer (some ⟨cb, 0, none⟩), .int .i64 id, .string key] w fun e w' => e = .returned (.tuple #[.int .i64 0, .int .i64 r]) ∧ Below w.heap.size w w' := by
  have hd := down_err key h
  have g4 : (r != 0) = true := by simpa using h.1
  have q0 := hh.cell 0
  simp at q0
  clear h hh
  go_enter Tryz.func46, Tryz.ntmps46
  go_wp2_with fail
  refine hd.mono ?_
  rintro e w1 ⟨rfl, hb⟩
  have hba := alloc_below (w := w1) (.cells #[.slice none 0 0, .int .i64 0, .slice none 0 0] 122)
  have HB := Lib.hid (hb.trans (hba.mono hb.size))
  clear hd hb hba
  go_wp2_with fail
  go_ret2
  exact ⟨rfl, HB.out⟩

set_option maxRecDepth 100000 in
set_option maxHeartbeats 2000000 in
theorem trput_err (key v : ByteArray) (hk : 1 ≤ key.size ∧ key.size ≤ 40) (hv : v.size ≤ 2000) (h : NoLd q id r w) : Calls Tryz.prog 14 #[.pointer q, .int .i64 id, .string key, .string v] w fun e w' => e = .returned (.tuple #[.int .i64 0, .int .i64 r]) ∧ Below w.heap.size w w' := by
  have hr := trright_any key w
  rw [decide_eq_true hk] at hr
  have g2 : decide ((2000 : Int) < (v.size : Int)) = false := by simp; omega
  have hba := alloc_below (w := w) (.cells #[.pointer q, .slice none 0 0, .slice none 0 0] 83)
  have hx := Has.made w 83 #[.pointer q, .slice none 0 0, .slice none 0 0]
  have hp := chput_err key v (h.below hba) hx
  have HB := Lib.hid (And.intro hba (And.intro hx h.1))
  clear h hk hv hba hx
  go_enter Tryz.func14, Tryz.ntmps14
  go_wp2_with fail
  refine hr.mono ?_
  rintro e w1 ⟨rfl, rfl⟩
  clear hr
  go_wp2_with fail
  refine hp.mono ?_
  rintro e w1 ⟨rfl, hb⟩
  obtain ⟨hba, hx, hr⟩ := HB.out
  have he := chend_err (w := w1) 0 hr (hx.below hb hx.inside)
  have H1 := Lib.hid (hba.trans (hb.mono hba.size))
  clear hp hb hba hx hr
  go_wp2_with fail
  refine he.mono ?_
  rintro e w2 ⟨rfl, hb⟩
  have H2 := Lib.hid (H1.out.trans (hb.mono H1.out.size))
  clear he hb
  go_wp2_with fail
  go_ret2
  exact ⟨rfl, H2.out⟩
set_option maxRecDepth 100000 in
set_option maxHeartbeats 2000000 in
theorem trdel_err (key : ByteArray) (hk : 1 ≤ key.size ∧ key.size ≤ 40) (h : NoLd q id r w) : Calls Tryz.prog 16 #[.pointer q, .int .i64 id, .string key] w fun e w' => e = .returned (.tuple #[.int .i64 0, .int .i64 r]) ∧ Below w.heap.size w w' := by
  have hr := trright_any key w
  rw [decide_eq_true hk] at hr
  have hba := alloc_below (w := w) (.cells #[.pointer q, .slice none 0 0, .slice none 0 0] 83)
  have hx := Has.made w 83 #[.pointer q, .slice none 0 0, .slice none 0 0]
  have hp := chdel_err key (h.below hba) hx
  have HB := Lib.hid (And.intro hba (And.intro hx h.1))
  clear h hk hba hx
  go_enter Tryz.func16, Tryz.ntmps16
  go_wp2_with fail
  refine hr.mono ?_
  rintro e w1 ⟨rfl, rfl⟩
  clear hr
  go_wp2_with fail
  refine hp.mono ?_
  rintro e w1 ⟨rfl, hb⟩
  obtain ⟨hba, hx, hr⟩ := HB.out
  have he := chend_err (w := w1) 0 hr (hx.below hb hx.inside)
  have H1 := Lib.hid (hba.trans (hb.mono hba.size))
  clear hp hb hba hx hr
  go_wp2_with fail
  refine he.mono ?_
  rintro e w2 ⟨rfl, hb⟩
  have H2 := Lib.hid (H1.out.trans (hb.mono H1.out.size))
  clear he hb
  go_wp2_with fail
  go_ret2
  exact ⟨rfl, H2.out⟩
end
end Go.Proofs.YtpoocbkligjgbaaGreatDoor

namespace Go.Proofs.YtpoocbkligjgbaaGreatDoor
open Go.RowKit Go.Sort Go.Lib

section
variable {q : Option Addr} {id r : Int} {w : World}

set_option maxRecDepth 100000 in
set_option maxHeartbeats 2000000 in
theorem swalk_err {sb : Nat} {m : Value} {hh kk : Int} (h : NoLd q id r w) (hs : Has w sb 135 #[.pointer q, m, .int .i64 hh, .int .i64 kk]) :
    Calls Tryz.prog 112 #[.pointer (some ⟨sb, 0, none⟩), .int .i64 id, .int .i64 1, .agg #[.string ⟨#[]⟩, .string ⟨#[]⟩]] w fun e w' => e = .returned (.int .i64 r) ∧ Below w.heap.size w w' := by
  have hba := alloc_below (w := w) (.cells #[.string ⟨#[]⟩, .string ⟨#[]⟩] 210)
  have hs2 := hs.below hba hs.inside
  have q0 : (w.alloc (.cells #[.string ⟨#[]⟩, .string ⟨#[]⟩] 210)).cell? ⟨sb, 0, none⟩ = some (.pointer q) := hs2.cell 0
  have hld := h.2 _ hba
  have g4 : (r != 0) = true := by simpa using h.1
  have HB := Lib.hid hba
  clear hba hs2 h hs
  go_enter Tryz.func112, Tryz.ntmps112
  go_wp2_with fail
  refine hld.mono ?_
  rintro e w1 ⟨rfl, hb⟩
  have hba := alloc_below (w := w1) (.cells #[.slice none 0 0, .slice none 0 0] 197)
  have H1 := Lib.hid (HB.out.trans ((hb.trans (hba.mono hb.size)).mono HB.out.size))
  clear hld hb hba q0
  go_wp2_with fail
  go_ret
  exact ⟨rfl, H1.out⟩

set_option maxRecDepth 100000 in
set_option maxHeartbeats 2000000 in
theorem look_err (h : NoLd q id r w) : Calls Tryz.prog 66 #[.pointer q, .int .i64 id] w fun e w' => ∃ sb, e = .returned (.tuple #[.pointer (some ⟨sb, 0, none⟩), .int .i64 r]) ∧ Below w.heap.size w w' := by
  have hb1 := alloc_below (w := w) (.map #[] 0)
  have hb2 : Below w.heap.size w ((w.alloc (.map #[] 0)).alloc (.cells #[.pointer q, .map (some w.heap.size), .int .i64 0, .int .i64 0] 135)) := hb1.alloc (Nat.le_of_lt (by simp)) _
  have hs := Has.made (w.alloc (.map #[] 0)) 135 #[.pointer q, .map (some w.heap.size), .int .i64 0, .int .i64 0]
  rw [show (w.alloc (.map #[] 0)).heap.size = w.heap.size + 1 by simp] at hs
  have hwk := swalk_err (h.below hb2) hs
  have HB := Lib.hid hb2
  clear hb1 hb2 hs h
  have hrm := @run_makeMap Tryz.prog
  go_enter Tryz.func66, Tryz.ntmps66
  go_wp2_with fail
  refine hwk.mono ?_
  rintro e w1 ⟨rfl, hb⟩
  have H1 := Lib.hid (HB.out.trans (hb.mono HB.out.size))
  clear hwk hb
  go_wp2_with fail
  go_ret2
  exact ⟨_, rfl, H1.out⟩

set_option maxRecDepth 100000 in
set_option maxHeartbeats 1000000 in
theorem trheight_err (h : NoLd q id r w) : Calls Tryz.prog 26 #[.pointer q, .int .i64 id] w fun e w' => e = .returned (.tuple #[.int .i64 0, .int .i64 r]) ∧ Below w.heap.size w w' := by
  have hl := look_err h
  have g4 : (r != 0) = true := by simpa using h.1
  clear h
  go_enter Tryz.func26, Tryz.ntmps26
  go_wp2_with fail
  refine hl.mono ?_
  rintro e w1 ⟨sb, rfl, hb⟩
  have HB := Lib.hid hb
  clear hl hb
  go_wp2_with fail
  go_ret2
  exact ⟨rfl, HB.out⟩
set_option maxRecDepth 100000 in
set_option maxHeartbeats 1000000 in
theorem trcount_err (h : NoLd q id r w) : Calls Tryz.prog 25 #[.pointer q, .int .i64 id] w fun e w' => e = .returned (.tuple #[.int .i64 0, .int .i64 r]) ∧ Below w.heap.size w w' := by
  have hl := look_err h
  have g4 : (r != 0) = true := by simpa using h.1
  clear h
  go_enter Tryz.func25, Tryz.ntmps25
  go_wp2_with fail
  refine hl.mono ?_
  rintro e w1 ⟨sb, rfl, hb⟩
  have HB := Lib.hid hb
  clear hl hb
  go_wp2_with fail
  go_ret2
  exact ⟨rfl, HB.out⟩
set_option maxRecDepth 100000 in
set_option maxHeartbeats 1000000 in
theorem trpages_err (h : NoLd q id r w) : Calls Tryz.prog 27 #[.pointer q, .int .i64 id] w fun e w' => e = .returned (.tuple #[.slice none 0 0, .int .i64 r]) ∧ Below w.heap.size w w' := by
  have hl := look_err h
  have g4 : (r != 0) = true := by simpa using h.1
  clear h
  go_enter Tryz.func27, Tryz.ntmps27
  go_wp2_with fail
  refine hl.mono ?_
  rintro e w1 ⟨sb, rfl, hb⟩
  have HB := Lib.hid hb
  clear hl hb
  go_wp2_with fail
  go_ret2
  exact ⟨rfl, HB.out⟩
set_option maxRecDepth 100000 in
set_option maxHeartbeats 1000000 in
theorem trdrop_err (h : NoLd q id r w) : Calls Tryz.prog 33 #[.pointer q, .int .i64 id] w fun e w' => e = .returned (.int .i64 r) ∧ Below w.heap.size w w' := by
  have hl := trpages_err h
  have g4 : (r != 0) = true := by simpa using h.1
  clear h
  go_enter Tryz.func33, Tryz.ntmps33
  go_wp2_with fail
  refine hl.mono ?_
  rintro e w1 ⟨rfl, hb⟩
  have HB := Lib.hid hb
  clear hl hb
  go_wp2_with fail
  go_ret
  exact ⟨rfl, HB.out⟩
end

/-- A page that is none of a tree: it can't be loaded. -/
theorem noLd_corrupt {p pd pf b : Nat} {s : PgS} {F : List Nat} {w : World} {id : Int} (hid : IsInt id) (hy : Yg s) (h : PgIs p pd pf b s F w) (hn : ldN s id 1 = none) : NoLd (some ⟨p, 0, none⟩) id (ldE s id 1) w := by
  refine ⟨ldN_none hn, fun w1 hb => (load_any id 1 hid (by omega) hy (h.below hb)).mono ?_⟩
  rintro e w' ⟨⟨A1, c1, A2, c2, n, rfl, h2, _⟩ | ⟨_, rfl⟩, hb'⟩
  · rw [hn] at h2
    exact absurd h2 (by simp)
  · exact ⟨rfl, hb'⟩
end Go.Proofs.YtpoocbkligjgbaaGreatDoor

namespace Go.Proofs.YtpoocbkligjgbaaGreatDoor
open Go.RowKit Go.Sort Go.Lib Go.Maps

/-- How nothing reads in a map. -/
def unitR (v : Value) : Option (DataW Unit × List MemPlace) :=
  match v with
  | .agg cs => if cs.size = 0 then some (.agg [], []) else none
  | _ => none
theorem unitR_inv {v : Value} {y : DataW Unit × List MemPlace} (h : unitR v = some y) : v = .agg #[] := by
  unfold unitR at h
  split at h
  · rename_i cs
    split at h
    · rename_i h0
      rw [Array.eq_empty_of_size_eq_zero h0]
    · cases h
  · cases h
theorem zeroUnit (w : World) : (zeroValue 140).run Tryz.prog w = .ok (.agg #[]) w := by kernel_rfl

section
variable {w : World} {sb mb : Nat} {q : Option Addr}

set_option maxRecDepth 100000 in
set_option maxHeartbeats 4000000 in
/-- The first page that is met. -/
theorem smeet_first (id : Int) (hid : IsInt id) (hs : Has w sb 135 #[.pointer q, .map (some mb), .int .i64 0, .int .i64 0]) (hm : w.ownsMap Tryz.prog 3 unitR mb 0 (.map [])) :
    Calls Tryz.prog 164 #[.pointer (some ⟨sb, 0, none⟩), .slice (some ⟨w.heap.size, 0, none⟩) 1 1] (w.alloc (.cells #[.int .i64 id] 3)) fun e w' => e = .returned (.bool true) ∧ w.heap.size < w'.heap.size ∧ Kept [mb] w w' := by
  have hba := alloc_below (w := w) (.cells #[.int .i64 id] 3)
  have hs1 := hs.below hba hs.inside
  have hx := Has.made w 3 #[.int .i64 id]
  have hm1 := hm.alloc (.cells #[.int .i64 id] 3)
  obtain ⟨v, ps, hrun, hv⟩ := hm1.look_ok intKey Tryz.underlying133 (zeroUnit _) (zd := .agg []) (zp := []) (by rfl) (keyInt hid)
  rw [unitR_inv hv] at hrun
  rw [show Maps.has (DataW.map (H := Unit) []) (.int .i64 id) = false by rfl] at hrun
  have hs2 := hs1.alloc (.cells #[] 140)
  have hm2 := hm1.alloc (.cells #[] 140)
  have hK2 : Kept [mb] w ((w.alloc (.cells #[.int .i64 id] 3)).alloc (.cells #[] 140)) := ((Kept.refl [mb] w).alloc _).alloc _
  have HB := Lib.hid (And.intro hm2 hK2)
  obtain ⟨W1, hW1⟩ : ∃ W1, w.alloc (.cells #[.int .i64 id] 3) = W1 := ⟨_, rfl⟩
  obtain ⟨B, hB⟩ : ∃ B, w.heap.size = B := ⟨_, rfl⟩
  have hsz : w.heap.size < W1.heap.size := by rw [← hW1]; simp
  rw [hW1] at hs1 hs2 hrun HB
  rw [hW1]
  rw [hB] at hsz
  rw [hB]
  have p0 : W1.cell? ⟨B, 0, none⟩ = some (.int .i64 id) := by rw [← hW1, ← hB]; exact hx.cell 0
  have q1 := hs1.cell 1
  have r1 := hs2.cell 1
  simp at q1 r1
  clear hx hm1 hm2 hK2 hba hv hs hm hs1 hs2 hW1
  go_enter Tryz.func164, Tryz.ntmps164
  go_wp2_with fail
  go_loopg [11] 1 (fun g iv wr => (iv = .int .i64 0 ∧ g = 1 ∧ W1 = wr) ∨ (iv = .int .i64 1 ∧ g = 0 ∧ B < wr.heap.size ∧ Kept [mb] w wr))
  case atStart => exact .inl ⟨rfl, rfl, rfl⟩
  case round =>
    rcases hrel with ⟨rfl, rfl, rfl⟩ | ⟨rfl, rfl, hs3, hk3⟩
    · go_wp2_with (at_mapUpdate; refine wpList_mapUpdate_own _ rfl _ _ _ 133 rfl 3 140 intKey Tryz.underlying133 unitR mb 0 (.map []) rfl HB.out.1 (by unfold maxLen; omega) _ (.agg #[]) (.int .i64 id) rfl rfl (keyInt hid) (.agg []) [] (by rfl) ?_; intro w2 hm2 hg2; have H2 := Lib.hid hg2; clear hm2 hg2)
      go_roundg 0
      case measure => omega
      case rel =>
        refine .inr ⟨rfl, rfl, ?_, HB.out.2.trans (Kept.of_grown H2.out (fun k hk => by cases hk; simp))⟩
        have := H2.out.size
        simp at this
        omega
    · have H3 := Lib.hid (And.intro hs3 hk3)
      clear hs3 hk3
      go_wp2_with fail
      go_ret
      exact ⟨rfl, H3.out.1, H3.out.2⟩

set_option maxRecDepth 100000 in
set_option maxHeartbeats 2000000 in
theorem salike_first {m : Value} {kk : Int} (v1 v2 : Value) (A1 A2 : Option Addr) (n1 n2 c1 c2 : Nat) (lv : Int) (hs : Has w sb 135 #[.pointer q, m, .int .i64 0, .int .i64 kk]) :
    Calls Tryz.prog 165 #[.pointer (some ⟨sb, 0, none⟩), .agg #[.slice A1 n1 c1, .slice A2 n2 c2], .int .i64 lv] w fun e w' => e = .returned (.bool true) ∧ Below w.heap.size w w' := by
  have hba := alloc_below (w := w) (.cells #[.slice A1 n1 c1, .slice A2 n2 c2] 197)
  have hs1 := hs.below hba hs.inside
  have HB := Lib.hid hba
  have q2 : (w.alloc (.cells #[.slice A1 n1 c1, .slice A2 n2 c2] 197)).cell? ⟨sb, 2, none⟩ = some (.int .i64 0) := hs1.cell 2
  clear hba hs hs1
  go_enter Tryz.func165, Tryz.ntmps165
  go_wp2_with fail
  go_quiet (fail)
  go_wp2_with fail
  go_ret
  exact ⟨rfl, ⟨HB.out.os, HB.out.tape, HB.out.output, HB.out.size, HB.out.block⟩⟩

set_option maxRecDepth 100000 in
set_option maxHeartbeats 1000000 in
theorem hold_none (A : Option Addr) (c : Nat) (w : World) : Calls Tryz.prog 226 #[.agg #[.string ⟨#[]⟩, .string ⟨#[]⟩], .slice A 0 c] w fun e w' => e = .returned (.bool true) ∧ Below w.heap.size w w' := by
  have hba := alloc_below (w := w) (.cells #[.string ⟨#[]⟩, .string ⟨#[]⟩] 210)
  have HB := Lib.hid hba
  clear hba
  go_enter Tryz.func226, Tryz.ntmps226
  go_wp2_with fail
  go_ret
  exact ⟨rfl, HB.out⟩

set_option maxRecDepth 100000 in
set_option maxHeartbeats 4000000 in
theorem sleaf_none {m : Value} {hh kk : Int} (hk : 0 ≤ kk ∧ kk ≤ 1000000) (A : Option Addr) (c : Nat) (hs : Has w sb 135 #[.pointer q, m, .int .i64 hh, .int .i64 kk]) :
    Calls Tryz.prog 166 #[.pointer (some ⟨sb, 0, none⟩), .slice A 0 c, .agg #[.string ⟨#[]⟩, .string ⟨#[]⟩]] w fun e w' => e = .returned (.int .i64 0) ∧ Has w' sb 135 #[.pointer q, m, .int .i64 hh, .int .i64 kk] ∧ Kept [sb] w w' := by
  have hba := alloc_below (w := w) (.cells #[.string ⟨#[]⟩, .string ⟨#[]⟩] 210)
  have hs1 := hs.below hba hs.inside
  have hho := hold_none A c (w.alloc (.cells #[.string ⟨#[]⟩, .string ⟨#[]⟩] 210))
  have HB := Lib.hid (And.intro hba hs1)
  have gw : IntKind.i64.wrap (kk + 0) = kk := by rw [Int.add_zero]; exact IntWalk.i64_in _ (by omega)
  have gw2 : IntKind.i64.wrap kk = kk := IntWalk.i64_in _ (by omega)
  clear hba hs hs1 hk
  go_enter Tryz.func166, Tryz.ntmps166
  go_wp2_with fail
  refine hho.mono ?_
  rintro e w1 ⟨rfl, hb⟩
  obtain ⟨hba, hs1⟩ := HB.out
  have hs2 := hs1.below hb hs1.inside
  have q3 := hs2.cell 3
  simp at q3
  have i3 := hs2.free 3
  have H1 := Lib.hid (And.intro hs2 (hba.trans (hb.mono hba.size)))
  clear hba hs1 hb hs2 hho
  go_wp2_with fail
  have hP := H1.out.1.put 3 (.int .i64 kk)
  have hK := (Kept.of_below (F := [sb]) H1.out.2).setCell (p := ⟨sb, 3, none⟩) (.inl (by simp)) (.int .i64 kk)
  have H2 := Lib.hid (And.intro hP hK)
  clear hP hK q3 i3
  go_loopg [26] 0 (fun g iv wr => iv = .int .i64 0 ∧ w1.setCell ⟨sb, 3, none⟩ (.int .i64 kk) = wr)
  case atStart => exact ⟨rfl, rfl⟩
  case round =>
    obtain ⟨rfl, rfl⟩ := hrel
    go_wp2_with fail
    go_ret
    exact ⟨rfl, by simpa using H2.out.1, H2.out.2⟩

set_option maxRecDepth 100000 in
set_option maxHeartbeats 8000000 in
theorem swalk_none {p pd pf b : Nat} {s : PgS} {F : List Nat} {root : Int} (hid : IsInt root) (hy : Yg s) (hl : Leaf1 s root []) (h : PgIs p pd pf b s F w) (hs : Has w sb 135 #[.pointer (some ⟨p, 0, none⟩), .map (some mb), .int .i64 0, .int .i64 0]) (hm : w.ownsMap Tryz.prog 3 unitR mb 0 (.map [])) (hne : sb ≠ mb) :
    Calls Tryz.prog 112 #[.pointer (some ⟨sb, 0, none⟩), .int .i64 root, .int .i64 1, .agg #[.string ⟨#[]⟩, .string ⟨#[]⟩]] w fun e w' => e = .returned (.int .i64 0) ∧ Has w' sb 135 #[.pointer (some ⟨p, 0, none⟩), .map (some mb), .int .i64 1, .int .i64 0] ∧ Kept [sb, mb] w w' := by
  have hba := alloc_below (w := w) (.cells #[.string ⟨#[]⟩, .string ⟨#[]⟩] 210)
  have hs1 := hs.below hba hs.inside
  have hX := Has.made w 210 #[.string ⟨#[]⟩, .string ⟨#[]⟩]
  obtain ⟨B, hB⟩ : ∃ B, w.heap.size = B := ⟨_, rfl⟩
  rw [hB] at hX
  have hmlt := hm.lt
  have hslt := hs.inside
  have hm1 := hm.alloc (.cells #[.string ⟨#[]⟩, .string ⟨#[]⟩] 210)
  have hld := load_any root 1 hid (by omega) hy (h.below hba)
  have q0 : (w.alloc (.cells #[.string ⟨#[]⟩, .string ⟨#[]⟩] 210)).cell? ⟨sb, 0, none⟩ = some (.pointer (some ⟨p, 0, none⟩)) := hs1.cell 0
  have HB := Lib.hid (And.intro hba (And.intro hs1 (And.intro hm1 (And.intro hX (And.intro hB (And.intro hmlt hslt))))))
  have hnd := hl.ld hy
  unfold LoadTo at hld
  rw [hnd] at hld
  clear hba hs1 hs hX hm hm1 hmlt hslt hB h hnd hy hl
  go_enter Tryz.func112, Tryz.ntmps112
  go_wp2_with fail
  refine hld.mono ?_
  rintro e w1 ⟨⟨A1, c1, A2, c2, n, rfl, hn, -, -⟩ | ⟨h0, _⟩, hb⟩
  · obtain rfl : n = ⟨[], []⟩ := by simpa using hn.symm
    obtain ⟨hba, hs1, hm1, hX, hB, hmlt, hslt⟩ := HB.out
    have hba2 := alloc_below (w := w1) (.cells #[.slice A1 0 c1, .slice A2 0 c2] 197)
    have hM := Has.made w1 197 #[.slice A1 0 c1, .slice A2 0 c2]
    have hb2 := hb.trans (hba2.mono hb.size)
    have hs2 := hs1.below hb2 hs1.inside
    have hm2 : (w1.alloc (.cells #[.slice A1 0 c1, .slice A2 0 c2] 197)).ownsMap Tryz.prog 3 unitR mb 0 (.map []) := hm1.kept (row := none) ⟨hb2.os, hb2.tape, hb2.output, hb2.size, fun k hk _ => hb2.block k hk⟩ (by simp)
    have hmt := smeet_first root hid hs2 hm2
    have hX2 := hX.below hb2 hX.inside
    have hbw := hba.trans (hb2.mono hba.size)
    have hw1 : w.heap.size < w1.heap.size := by have := hb.size; simp at this; omega
    have H1 := Lib.hid (And.intro hbw (And.intro hs2 (And.intro hX2 (And.intro hM hw1))))
    clear hba hs1 hm1 hX hba2 hM hb hb2 hs2 hm2 hX2 hbw hld hn q0 hw1
    have hes : (w1.alloc (.cells #[.slice A1 0 c1, .slice A2 0 c2] 197)).heap.size = w1.heap.size + 1 := by simp
    rw [hes] at hmt
    have HE := Lib.hid hes
    clear hes
    go_wp2_with fail
    refine hmt.mono ?_
    rintro e w3 ⟨rfl, hsz3, hk3⟩
    obtain ⟨hbw, hs2, hX2, hM, hw1⟩ := H1.out
    have hmb : w1.heap.size ≠ mb ∧ B ≠ mb ∧ w1.heap.size ≠ sb ∧ B ≠ sb := by
      obtain ⟨-, -, -, -, hB, hmlt, hslt⟩ := HB.out
      omega
    have hs3 := hs2.kept hk3 (by simpa using hne)
    have hX3 := hX2.kept hk3 (by simpa using hmb.2.1)
    have hM3 := hM.kept hk3 (by simpa using hmb.1)
    have hal := salike_first (.slice none 0 0) (.slice none 0 0) A1 A2 0 0 c1 c2 1 hs3
    have m0 := hM3.cell 0
    have m1 := hM3.cell 1
    simp at m0 m1
    have H3 := Lib.hid (And.intro ((Kept.of_below (F := [mb]) hbw).trans hk3) (And.intro hs3 (And.intro hX3 (And.intro hM3 hmb))))
    clear hbw hs2 hX2 hM hw1 hsz3 hk3 hs3 hX3 hM3 hmb hmt
    go_wp2_with fail
    refine hal.mono ?_
    rintro e w4 ⟨rfl, hb4⟩
    obtain ⟨hK, hs3, hX3, hM3, hmb⟩ := H3.out
    have hs4 := hs3.below hb4 hs3.inside
    have hX4 := hX3.below hb4 hX3.inside
    have hM4 := hM3.below hb4 hM3.inside
    have hil := isLeaf_any (.slice A1 0 c1) A2 0 c2 w4
    rw [decide_eq_true rfl] at hil
    have m0 := hM4.cell 0
    have m1 := hM4.cell 1
    simp at m0 m1
    have H4 := Lib.hid (And.intro (hK.trans (Kept.of_below hb4)) (And.intro hs4 (And.intro hX4 (And.intro hM4 hmb))))
    clear hK hs3 hX3 hM3 hmb hb4 hs4 hX4 hM4 hal
    go_wp2_with fail
    refine hil.mono ?_
    rintro e w5 ⟨rfl, hb5⟩
    obtain ⟨hK, hs4, hX4, hM4, hmb⟩ := H4.out
    have hs5 := hs4.below hb5 hs4.inside
    have hX5 := hX4.below hb5 hX4.inside
    have hM5 := hM4.below hb5 hM4.inside
    have s2 := hs5.cell 2
    have f2 := hs5.free 2
    have m0 := (hM5.past (p := ⟨sb, 2, none⟩) hmb.2.2.1 (.int .i64 1)).cell 0
    have x0 := (hX5.past (p := ⟨sb, 2, none⟩) hmb.2.2.2 (.int .i64 1)).cell 0
    have x1 := (hX5.past (p := ⟨sb, 2, none⟩) hmb.2.2.2 (.int .i64 1)).cell 1
    simp at s2 m0 x0 x1
    have hP := hs5.put 2 (.int .i64 1)
    have hP2 : Has (w5.setCell ⟨sb, 2, none⟩ (.int .i64 1)) sb 135 #[.pointer (some ⟨p, 0, none⟩), .map (some mb), .int .i64 1, .int .i64 0] := by simpa using hP
    have hlf := sleaf_none (by omega) A1 c1 hP2
    have hK5 := (((hK.trans (Kept.of_below hb5)).mono (G := [sb, mb]) (fun k hk => .inl (by simp at hk; simp [hk])))).setCell (p := ⟨sb, 2, none⟩) (.inl (by simp)) (.int .i64 1)
    have H5 := Lib.hid hK5
    clear hK hs4 hX4 hM4 hmb hb5 hs5 hX5 hM5 hP hP2 hK5 hil
    go_wp2_with fail
    refine hlf.mono ?_
    rintro e w6 ⟨rfl, hs6, hk6⟩
    have H6 := Lib.hid (And.intro hs6 (H5.out.trans (hk6.mono (fun k hk => .inl (by simp at hk; simp [hk])))))
    clear hs6 hk6 hlf
    go_wp2_with fail
    go_ret
    exact ⟨rfl, H6.out.1, H6.out.2⟩
  · exact absurd h0 (by simp)

set_option maxRecDepth 100000 in
set_option maxHeartbeats 2000000 in
/-- A tree that is a leaf without items is one page high. -/
theorem trheight_none {p pd pf b : Nat} {s : PgS} {F : List Nat} {root : Int} (hid : IsInt root) (hy : Yg s) (hl : Leaf1 s root []) (h : PgIs p pd pf b s F w) :
    Calls Tryz.prog 26 #[.pointer (some ⟨p, 0, none⟩), .int .i64 root] w fun e w' => e = .returned (.tuple #[.int .i64 1, .int .i64 0]) ∧ Below w.heap.size w w' := by
  have hlk : Calls Tryz.prog 66 #[.pointer (some ⟨p, 0, none⟩), .int .i64 root] w fun e w' => ∃ sb c, e = .returned (.tuple #[.pointer (some ⟨sb, 0, none⟩), .int .i64 0]) ∧ Has w' sb 135 #[.pointer (some ⟨p, 0, none⟩), c, .int .i64 1, .int .i64 0] ∧ Below w.heap.size w w' := by
    have hb1 := alloc_below (w := w) (.map #[] 0)
    have hb2 : Below w.heap.size w ((w.alloc (.map #[] 0)).alloc (.cells #[.pointer (some ⟨p, 0, none⟩), .map (some w.heap.size), .int .i64 0, .int .i64 0] 135)) := hb1.alloc (Nat.le_of_lt (by simp)) _
    have hs := Has.made (w.alloc (.map #[] 0)) 135 #[.pointer (some ⟨p, 0, none⟩), .map (some w.heap.size), .int .i64 0, .int .i64 0]
    rw [show (w.alloc (.map #[] 0)).heap.size = w.heap.size + 1 by simp] at hs
    have hm : ((w.alloc (.map #[] 0)).alloc (.cells #[.pointer (some ⟨p, 0, none⟩), .map (some w.heap.size), .int .i64 0, .int .i64 0] 135)).ownsMap Tryz.prog 3 unitR w.heap.size 0 (.map []) := (World.ownsMap_made w _ _ _).alloc _
    have hwk := swalk_none hid hy hl (h.below hb2) hs hm (by omega)
    have HB := Lib.hid hb2
    clear hb1 hb2 hs h hm hl hy hid
    have hrm := @run_makeMap Tryz.prog
    go_enter Tryz.func66, Tryz.ntmps66
    go_wp2_with fail
    refine hwk.mono ?_
    rintro e w1 ⟨rfl, hs1, hk⟩
    have H1 := Lib.hid (And.intro hs1 (HB.out.trans (hk.below HB.out.size (by simp))))
    clear hwk hs1 hk
    go_wp2_with fail
    go_ret2
    exact ⟨_, _, rfl, H1.out.1, H1.out.2⟩
  clear h hl hy hid
  go_enter Tryz.func26, Tryz.ntmps26
  go_wp2_with fail
  refine hlk.mono ?_
  rintro e w1 ⟨sb, c, rfl, hs1, hb⟩
  have q2 := hs1.cell 2
  simp at q2
  have HB := Lib.hid hb
  clear hlk hb hs1
  go_wp2_with fail
  go_ret2
  exact ⟨rfl, HB.out⟩
end
end Go.Proofs.YtpoocbkligjgbaaGreatDoor

namespace Go.Proofs.YtpoocbkligjgbaaGreatDoor
open Go.RowKit Go.Sort Go.Lib

theorem bodyI_nil : bodyI [] = ⟨#[]⟩ := by unfold bodyI putB; split <;> rfl
theorem okl_nil : OKL [] := ⟨by simp, List.Pairwise.nil⟩
theorem okl_one {x : Itm} (h : rightB x = true) : OKL [x] ∧ sz [x] ≤ 240 := by
  refine ⟨⟨by simpa using h, List.pairwise_singleton _ _⟩, ?_⟩
  have := right_sz (l := [x]) (by simpa using h)
  simp at this
  omega
theorem setL_nil (x : Itm) : setL [] x = [x] := by simp [setL]
theorem lb_same (x : Itm) : lb [x] x.key = 0 := by rw [lb_cons, ltK_irrefl]; rfl
theorem isAt_same (x : Itm) : isAt [x] x.key = true := by
  unfold isAt
  rw [lb_same]
  simp
theorem isAt_nil (k : ByteArray) : isAt [] k = false := by simp [isAt]
theorem itemAt_nil (k : ByteArray) : itemAt [] k = itm0 := by unfold itemAt; rw [isAt_nil]; rfl
theorem itemAt_same (x : Itm) : itemAt [x] x.key = x := by
  unfold itemAt
  rw [isAt_same, lb_same]
  rfl
theorem setL_same (x y : Itm) (h : y.key = x.key) : setL [x] y = [y] := by
  unfold setL behind
  rw [h, lb_same, isAt_same]
  simp
theorem delL_same (x : Itm) : delL [x] x.key = [] := by
  unfold delL
  rw [isAt_same, lb_same]
  simp
theorem Leaf1.isInt {s : PgS} {r : Int} {l : List Itm} (h : Leaf1 s r l) (hy : Yg s) : IsInt r := by
  have hp := hy.place (x := r) (.inl (by rw [h.at_]))
  have := hy.most
  have := hy.few
  unfold IsInt
  omega

/-- A young pager with a tree that is one leaf. -/
structure One (s : PgS) (r : Int) (l : List Itm) (n a : Nat) : Prop where
  yg : Yg s
  leaf : Leaf1 s r l
  n : s.n = n
  avail : avail s = a
theorem One.next {s : PgS} {r : Int} {l l' : List Itm} {n a : Nat} (h : One s r l n a) (hok : OKL l') (hs : sz l' ≤ 240) (ha : a ≠ 0) (hn : n < 900000) : One (drS (mkS s 2 0 (bodyI l')) r) (cand s) l' (n + 2) a := by
  obtain ⟨-, -, e3, -, e5, e6, e7⟩ := leaf1_end h.leaf h.yg hok hs (by rw [h.avail]; exact ha) (by rw [h.n]; exact hn)
  exact ⟨e3, e5, by rw [e6, h.n], by rw [e7, h.avail]⟩
theorem one_new (most : Int) (h1 : 3 ≤ most) (h2 : most ≤ 3000) : One (mkS (newPg (longer (newS most) 2) [] 0 [] [] 2 1) 2 0 ⟨#[]⟩) 2 [] 1 (most - 3).toNat ∧ mkE (newPg (longer (newS most) 2) [] 0 [] [] 2 1) 2 0 ⟨#[]⟩ = 0 ∧ cand (newPg (longer (newS most) 2) [] 0 [] [] 2 1) = 2 := by
  have hy := Yg.new most (by omega) h2
  have hav := avail_new most (by omega)
  have hc : cand (newPg (longer (newS most) 2) [] 0 [] [] 2 1) = 2 := rfl
  have hn0 : (newPg (longer (newS most) 2) [] 0 [] [] 2 1).n = 0 := rfl
  generalize newPg (longer (newS most) 2) [] 0 [] [] 2 1 = s at *
  have hm : mkE s 2 0 ⟨#[]⟩ = 0 := by rw [mkE_k hy (by omega) (by decide), if_neg (by omega)]
  have hnew := mkS_new hy 2 0 ⟨#[]⟩
  rw [hc] at hnew
  obtain ⟨a1, _⟩ := avail_mk hy 2 0 ⟨#[]⟩ (by omega)
  exact ⟨⟨hy.made hm, ⟨by rw [hnew, bodyI_nil], okl_nil, by decide⟩, by rw [mkS_n, hn0], by omega⟩, hm, hc⟩

set_option maxRecDepth 1000000 in
set_option maxHeartbeats 4000000 in
theorem begin11_ok {w : World} (most : Int) (h1 : 3 ≤ most) (h2 : most ≤ 3000) :
    Calls Tryz.prog 13 #[.int .i64 most] w fun e w' => ∃ pd pf p b, e = .returned (.tuple #[.pointer (some ⟨pd, 0, none⟩), .pointer (some ⟨pf, 0, none⟩), .pointer (some ⟨p, 0, none⟩), .int .i64 2, .bool true]) ∧
      PgRun w p pd pf b (mkS (newPg (longer (newS most) 2) [] 0 [] [] 2 1) 2 0 ⟨#[]⟩) w' := by
  obtain ⟨-, hm, hc⟩ := one_new most h1 h2
  have hy := Yg.new most (by omega) h2
  have hbs := base7_ok (w := w) (v := .slice none 0 0) (l := []) most 2 (by omega) h2 (by omega) (Reads1.empty _ _ _ _) (by simp)
  have e1 : mkI (newPg (longer (newS most) 2) [] 0 [] [] 2 1) 2 0 ⟨#[]⟩ = 2 := by unfold mkI; rw [if_pos hm, hc]
  have e2 : mkT (newPg (longer (newS most) 2) [] 0 [] [] 2 1) 2 0 ⟨#[]⟩ = mkS (newPg (longer (newS most) 2) [] 0 [] [] 2 1) 2 0 ⟨#[]⟩ := by unfold mkT; rw [if_pos hm]
  have HM := Lib.hid (And.intro hm (And.intro e1 (And.intro e2 hy)))
  clear hm hc hy e1 e2
  go_enter Tryz.func13, Tryz.ntmps13
  go_wp2_with fail
  refine hbs.mono ?_
  rintro e w1 ⟨pd, q, pf, qf, FD, FF, rfl, hd, hf, hge, hfg, hap, hb⟩
  have hnw := gnew_ok 2 1 hd hf hap (by omega) (by rw [longer_new_len]; omega) (by omega) (by simp [whats]) (by simp)
  have H1 := Lib.hid (And.intro hge (And.intro hfg hb))
  clear hbs hd hf hge hfg hap hb
  go_wp2_with fail
  refine hnw.mono ?_
  rintro e w2 ⟨p, b, F2, rfl, hp2, hF2, hb2⟩
  have hr2 : PgRun w p pd pf b (newPg (longer (newS most) 2) [] 0 [] [] 2 1) w2 := PgRun.new hp2 hF2 H1.out.1 H1.out.2.1 H1.out.2.2 hb2
  clear hnw hp2 hF2 hb2 H1 F2
  obtain ⟨F, hp3, hstep⟩ := hr2.step
  have hnew := trnew_any HM.out.2.2.2 (by show (0 : Nat) < 1000000; omega) hp3
  rw [HM.out.1, HM.out.2.1, HM.out.2.2.1] at hnew
  have H3 := Lib.hid hstep
  clear hp3 hstep hr2
  go_wp2_with fail
  refine hnew.mono ?_
  rintro e w3 ⟨rfl, hF⟩
  have H4 := Lib.hid (H3.out _ _ hF)
  clear hnew hF
  go_wp2_with fail
  refine bodyPost_ret (v := .tuple #[.pointer (some ⟨pd, 0, none⟩), .pointer (some ⟨pf, 0, none⟩), .pointer (some ⟨p, 0, none⟩), .int .i64 2, .bool true]) (by simp [results, Tryz.results13, go_sem]) rfl ⟨pd, pf, p, b, rfl, H4.out⟩
end Go.Proofs.YtpoocbkligjgbaaGreatDoor

namespace Go.Proofs.YtpoocbkligjgbaaGreatDoor
open Go.RowKit Go.Sort Go.Lib

namespace first11
def ka : ByteArray := ⟨#[97]⟩
def x1 : Itm := ⟨ka, ⟨#[49]⟩, 0, 0⟩
def x2 : Itm := ⟨ka, ⟨#[50]⟩, 0, 0⟩
theorem r1 : rightB x1 = true := by decide
theorem r2 : rightB x2 = true := by decide
end first11

open first11 in
set_option maxRecDepth 1000000 in
set_option maxHeartbeats 8000000 in
theorem alive11_any (w : World) : Calls Tryz.prog 12 #[] w fun e w' => e = .returned (.bool true) ∧ Below w.heap.size w w' := by
  have hbg := begin11_ok (w := w) 30 (by omega) (by omega)
  obtain ⟨o1, -, -⟩ := one_new 30 (by omega) (by omega)
  generalize mkS (newPg (longer (newS 30) 2) [] 0 [] [] 2 1) 2 0 ⟨#[]⟩ = s1 at *
  have k1 := okl_one r1
  have k2 := okl_one r2
  have l1 : setL [] x1 = [x1] := setL_nil x1
  have l2 : setL [x1] x2 = [x2] := setL_same x1 x2 rfl
  have l3 : delL [x2] ka = [] := delL_same x2
  have o2 := o1.next k1.1 k1.2 (by decide) (by omega)
  have o3 := o2.next k2.1 k2.2 (by decide) (by omega)
  have o4 := o3.next okl_nil (by decide) (by decide) (by omega)
  have p1 := fun (pp pd pf b : Nat) (F : List Nat) (W : World) (h : PgIs pp pd pf b s1 F W) => trput_one ka ⟨#[49]⟩ (o1.leaf.isInt o1.yg) o1.yg o1.leaf (by decide) (by decide) (by rw [itemAt_nil]; rfl) (by rw [show setL [] (⟨ka, ⟨#[49]⟩, 0, 0⟩ : Itm) = [x1] from l1]; exact k1.1) (by rw [show setL [] (⟨ka, ⟨#[49]⟩, 0, 0⟩ : Itm) = [x1] from l1]; exact k1.2) (by rw [o1.avail]; decide) (by rw [o1.n]; omega) h
  rw [show setL [] (⟨ka, ⟨#[49]⟩, 0, 0⟩ : Itm) = [x1] from l1] at p1
  generalize drS (mkS s1 2 0 (bodyI [x1])) 2 = s2 at *
  generalize cand s1 = y2 at *
  have p2 := fun (pp pd pf b : Nat) (F : List Nat) (W : World) (h : PgIs pp pd pf b s2 F W) => trput_one ka ⟨#[50]⟩ (o2.leaf.isInt o2.yg) o2.yg o2.leaf (by decide) (by decide) (by rw [show itemAt [x1] ka = x1 from itemAt_same x1]; rfl) (by rw [show setL [x1] (⟨ka, ⟨#[50]⟩, 0, 0⟩ : Itm) = [x2] from l2]; exact k2.1) (by rw [show setL [x1] (⟨ka, ⟨#[50]⟩, 0, 0⟩ : Itm) = [x2] from l2]; exact k2.2) (by rw [o2.avail]; decide) (by rw [o2.n]; omega) h
  rw [show setL [x1] (⟨ka, ⟨#[50]⟩, 0, 0⟩ : Itm) = [x2] from l2] at p2
  generalize drS (mkS s2 2 0 (bodyI [x2])) y2 = s3 at *
  generalize cand s2 = y3 at *
  have p3 := fun (pp pd pf b : Nat) (F : List Nat) (W : World) (h : PgIs pp pd pf b s3 F W) => trget_one ka (o3.leaf.isInt o3.yg) o3.yg o3.leaf (by decide) (by rw [show itemAt [x2] ka = x2 from itemAt_same x2]; rfl) h
  have g1 : get1V [x2] ka = ⟨#[50]⟩ := by unfold get1V; rw [show isAt [x2] ka = true from isAt_same x2, show itemAt [x2] ka = x2 from itemAt_same x2]; rfl
  have g2 : get1E [x2] ka = 0 := by unfold get1E; rw [show isAt [x2] ka = true from isAt_same x2]; rfl
  rw [g1, g2] at p3
  have p4 := fun (pp pd pf b : Nat) (F : List Nat) (W : World) (h : PgIs pp pd pf b s3 F W) => trdel_one ka (o3.leaf.isInt o3.yg) o3.yg o3.leaf (by decide) (isAt_same x2) (by rw [show itemAt [x2] ka = x2 from itemAt_same x2]; rfl) (by rw [l3]; exact okl_nil) (by rw [l3]; decide) (by rw [o3.avail]; decide) (by rw [o3.n]; omega) h
  rw [l3] at p4
  generalize drS (mkS s3 2 0 (bodyI [])) y3 = s4 at *
  generalize cand s3 = y4 at *
  have p5 := fun (pp pd pf b : Nat) (F : List Nat) (W : World) (h : PgIs pp pd pf b s4 F W) => trget_one ka (o4.leaf.isInt o4.yg) o4.yg o4.leaf (by decide) (by rw [itemAt_nil]; rfl) h
  have g3 : get1V [] ka = ⟨#[]⟩ := by unfold get1V; rw [isAt_nil]; rfl
  have g4 : get1E [] ka = 7 := by unfold get1E; rw [isAt_nil]; rfl
  rw [g3, g4] at p5
  have p6 := fun (pp pd pf b : Nat) (F : List Nat) (W : World) (h : PgIs pp pd pf b s4 F W) => trheight_none (o4.leaf.isInt o4.yg) o4.yg o4.leaf h
  have HP := Lib.hid (And.intro p1 (And.intro p2 (And.intro p3 (And.intro p4 (And.intro p5 p6)))))
  clear p1 p2 p3 p4 p5 p6 g1 g2 g3 g4 o1 o2 o3 o4 k1 k2 l1 l2 l3
  go_enter Tryz.func12, Tryz.ntmps12
  go_wp2_with fail
  refine hbg.mono ?_
  rintro e w1 ⟨pd, pf, p, b, rfl, hr1⟩
  obtain ⟨F1, hp1, hst1⟩ := hr1.step
  have hc := HP.out.1 p pd pf b F1 w1 hp1
  have H1 := Lib.hid hst1
  clear hbg hr1 hp1 hst1
  go_wp2_with fail
  refine hc.mono ?_
  rintro e w2 ⟨rfl, hF⟩
  have hr2 := H1.out _ _ hF
  obtain ⟨F2, hp2, hst2⟩ := hr2.step
  have hc := HP.out.2.1 p pd pf b F2 w2 hp2
  have H2 := Lib.hid hst2
  clear hF hr2 hp2 hst2 H1
  go_wp2_with fail
  refine hc.mono ?_
  rintro e w3 ⟨rfl, hF⟩
  have hr3 := H2.out _ _ hF
  obtain ⟨F3, hp3, -⟩ := hr3.step
  have hc := HP.out.2.2.1 p pd pf b F3 w3 hp3
  have H3 := Lib.hid hr3
  clear hF hr3 hp3 H2
  go_wp2_with fail
  refine hc.mono ?_
  rintro e w4 ⟨rfl, hb⟩
  have hr4 := H3.out.below hb
  obtain ⟨F4, hp4, hst4⟩ := hr4.step
  have hc := HP.out.2.2.2.1 p pd pf b F4 w4 hp4
  have H4 := Lib.hid hst4
  clear hb hr4 hp4 hst4 H3
  go_wp2_with fail
  refine hc.mono ?_
  rintro e w5 ⟨rfl, hF⟩
  have hr5 := H4.out _ _ hF
  obtain ⟨F5, hp5, -⟩ := hr5.step
  have hc := HP.out.2.2.2.2.1 p pd pf b F5 w5 hp5
  have H5 := Lib.hid hr5
  clear hF hr5 hp5 H4
  go_wp2_with fail
  refine hc.mono ?_
  rintro e w6 ⟨rfl, hb⟩
  have hr6 := H5.out.below hb
  obtain ⟨F6, hp6, -⟩ := hr6.step
  have hc := HP.out.2.2.2.2.2 p pd pf b F6 w6 hp6
  have H6 := Lib.hid hr6
  clear hb hr6 hp6 H5
  go_wp2_with fail
  refine hc.mono ?_
  rintro e w7 ⟨rfl, hb⟩
  have H7 := Lib.hid (H6.out.below hb).out
  clear hc hb H6
  go_wp2_with fail
  go_ret
  exact ⟨rfl, H7.out⟩
end Go.Proofs.YtpoocbkligjgbaaGreatDoor

namespace Go.Proofs.YtpoocbkligjgbaaGreatDoor
open Go.RowKit Go.Sort Go.Lib

set_option maxRecDepth 100000 in
set_option maxHeartbeats 2000000 in
theorem load_nil (id : Int) (w : World) : Calls Tryz.prog 107 #[.pointer none, .int .i64 id, .int .i64 1] w fun e w' => e = .returned (.tuple #[.agg #[.slice none 0 0, .slice none 0 0], .int .i64 1]) ∧ Below w.heap.size w w' := by
  have hz := alloc_below (w := w) (.cells #[.slice none 0 0, .slice none 0 0] 197)
  have hN := Has.made w 197 #[.slice none 0 0, .slice none 0 0]
  have hrd := gread_no (w := w.alloc (.cells #[.slice none 0 0, .slice none 0 0] 197)) (pv := .pointer none) (.inl rfl) id
  have HB := Lib.hid (And.intro hz hN)
  clear hz hN
  go_enter Tryz.func107, Tryz.ntmps107
  go_wp2_with fail
  refine hrd.mono ?_
  rintro e w1 ⟨rfl, hb1⟩
  obtain ⟨hz, hN⟩ := HB.out
  have hN1 := (hN.below hb1 hN.inside).alloc (.cells #[.int .i64 0, .int .i64 0, .string ⟨#[]⟩] 60)
  have hba := alloc_below (w := w1) (.cells #[.int .i64 0, .int .i64 0, .string ⟨#[]⟩] 60)
  have hbw : Below w.heap.size w (w1.alloc (.cells #[.int .i64 0, .int .i64 0, .string ⟨#[]⟩] 60)) := (hz.trans (hb1.mono hz.size)).trans (hba.mono (Nat.le_trans hz.size hb1.size))
  have y0 := hN1.free 0
  have y1 := hN1.free 1
  have z0 := hN1.cell 0
  have z1 := hN1.cell 1
  simp at z0 z1
  have H1 := Lib.hid (And.intro hbw hN1)
  clear hz hN hN1 hbw hb1 hba hrd HB
  go_wp2_with fail
  obtain ⟨hbw, hN2⟩ := H1.out
  have hP := hN2.put2 (.slice none 0 0) (.slice none 0 0)
  have e0 := hP.cell 0
  have e1 := hP.cell 1
  simp at e0 e1
  exact bodyPost_ret (v := .tuple #[.agg #[.slice none 0 0, .slice none 0 0], .int .i64 1]) (by simp [results, Tryz.results107, go_sem, e0, e1]) rfl ⟨rfl, below_put2 hbw (Nat.le_refl _) _ _⟩
theorem noLd_nil (id : Int) (w : World) : NoLd none id 1 w := ⟨by decide, fun w1 _ => load_nil id w1⟩

set_option maxRecDepth 100000 in
set_option maxHeartbeats 1000000 in
theorem trnew_nil (w : World) : Calls Tryz.prog 32 #[.pointer none] w fun e w' => e = .returned (.tuple #[.int .i64 0, .int .i64 1]) ∧ Below w.heap.size w w' := by
  have hmk := gmake_no (w := w) (pv := .pointer none) (.inl rfl) 2 0 ⟨#[]⟩
  go_enter Tryz.func32, Tryz.ntmps32
  go_wp2_with fail
  refine hmk.mono ?_
  rintro e w1 ⟨rfl, hb⟩
  have H1 := Lib.hid hb
  clear hmk hb
  go_wp2_with fail
  go_ret2
  exact ⟨rfl, H1.out⟩
end Go.Proofs.YtpoocbkligjgbaaGreatDoor
