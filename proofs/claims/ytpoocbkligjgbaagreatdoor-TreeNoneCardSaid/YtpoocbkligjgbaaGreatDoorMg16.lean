/-
  The document's own device, as far as a pager's statements make it: new, and grown once. What a pager's statements begin with: a device of some pages, and free ones. A pager of a statement's own; its first calls whose answers the document fixes. The calls of a nil and of a zero pager.
-/
import Derived.Test.YtpoocbkligjgbaaGreatDoorMg13
import Derived.Test.YtpoocbkligjgbaaGreatDoorMg15
namespace Go.Proofs.YtpoocbkligjgbaaGreatDoor
open Go.RowKit Go.Sort Go.Lib

def rdCells (most : Int) : Array Value := #[.int .i64 most, .bool true, .slice none 0 0, .slice none 0 0, .int .i64 (-1)]

set_option maxRecDepth 1000000 in
set_option maxHeartbeats 1000000 in
theorem rnew_ok (n : Int) (w : World) (h1 : 1 ≤ n) (h2 : n ≤ 3000) : Calls Tryz.prog 79 #[.int .i64 n] w fun e w' => e = .returned (.tuple #[.pointer (some ⟨w.heap.size, 0, none⟩), .int .i64 0]) ∧ w.alloc (.cells (rdCells n) 219) = w' := by
  have e1 : decide (n < 1) = false := by simpa using h1
  have e2 : decide (3000 < n) = false := by simpa using h2
  clear h1 h2
  go_enter Tryz.func79, Tryz.ntmps79
  go_wp2
  go_ret2
  exact ⟨rfl, rfl⟩

set_option maxRecDepth 1000000 in
set_option maxHeartbeats 1000000 in
theorem rop_ok (q : Nat) (n : Int) (w : World) (h : Has w q 219 (rdCells n)) : Calls Tryz.prog 123 #[.pointer (some ⟨q, 0, none⟩)] w fun e w' => e = .returned (.tuple #[.bool true, .bool true]) ∧ w = w' := by
  have c1 := h.cell 1
  have c4 := h.cell 4
  simp [rdCells] at c1 c4
  clear h
  go_enter Tryz.func123, Tryz.ntmps123
  go_wp2
  go_ret2
  exact ⟨rfl, rfl⟩

set_option maxRecDepth 1000000 in
set_option maxHeartbeats 2000000 in
theorem rgrow_ok (q : Nat) (n : Int) (k : Nat) (w : World) (hk : (k : Int) ≤ n) (hn : n ≤ 3000) (h : Has w q 219 (rdCells n)) :
    Calls Tryz.prog 81 #[.pointer (some ⟨q, 0, none⟩), .int .i64 k] w fun e w' => e = .returned (.int .i64 0) ∧ Kept [q] w w' := by
  have hop := rop_ok q n w h
  have c0 := h.cell 0
  have c2 := h.cell 2
  simp [rdCells] at c0 c2
  have f2 := h.free 2
  have hi := h.inside
  have e0 : decide ((k : Int) < 0) = false := by simp
  have e1 : decide (n < (k : Int)) = false := by simpa using hk
  have hkb : k ≤ 3000 := by omega
  have H := Lib.hid h
  clear h hk hn
  go_enter Tryz.func81, Tryz.ntmps81
  go_wp2_with fail
  refine hop.mono ?_
  rintro e w' ⟨rfl, rfl⟩
  clear hop
  go_wp2_with fail
  go_loopg [7] k (fun g lv wr => ∃ (j : Nat) (xs : List Value), j + g = k ∧ wr.ownsRow w.heap.size 9 1 lv j xs ∧ Below w.heap.size w wr)
  case atStart => exact ⟨0, [], by omega, World.ownsRow_nil _ _ _ _, Below.refl _ _⟩
  case round =>
    clear c0 c2 f2 hi
    obtain ⟨j, xs, hjg, hown, hb⟩ := hrel
    obtain ⟨A, c, hform⟩ := row_form hown
    subst hform
    by_cases hlt : j < k
    · have hj1 : (j : Int) < k := by omega
      have hjb : j ≤ 3000 := by omega
      have HR := Lib.hid (And.intro hown hb)
      obtain ⟨i0, hi0, hzz0, hzz1, hzz2⟩ := info_parts Tryz.infoStr2
      clear hown hb
      go_wp2_with (first
        | (at_make; refine make_bytes _ rfl _ _ rfl 256 rfl rfl (by omega) ?_; intro w5 hrow hb5
           have hstr := row_string hrow
           have HB5 := Lib.hid hb5
           have hra := World.ownsRow.alloc (row_base0 (row_kept HR.out.1 (Kept.of_below (F := []) hb5) (by simp))) (.cells #[.string ⟨(List.replicate 256 (0 : UInt8)).toArray⟩] 9)
           generalize (⟨(List.replicate 256 (0 : UInt8)).toArray⟩ : ByteArray) = X at *
           clear hrow hb5)
        | (at_builtin; refine wpList_append_keeps rfl _ _ 53 9 i0 (.string ⟨#[]⟩) 1 16 Tryz.underlying53 hi0 hzz0 hzz1 hzz2 rfl (by decide) rfl _ (.slice A j c) j _ rfl hra ⟨w5.heap.size, 0, none⟩ 1 1 rfl [.string X] rfl (cell_one_new _ _ _) (by intro u hu; simp at hu; subst hu; rfl) (by omega) (by unfold maxLen; omega) (by omega) ?_; intro v' w' hown' hgn))
      go_roundg (k - (j + 1))
      case measure => omega
      case rel =>
        have hge := fun g hg => (HR.out.1.lt g hg).1
        have hb6 := HB5.out.trans ((alloc_below (w := w5) (.cells #[.string X] 9)).mono HB5.out.size)
        have hs := HR.out.2.size
        obtain ⟨hb7, hg7⟩ := hgn.below (base := w.heap.size) (Nat.le_trans hs hb6.size) hge
        exact ⟨j + 1, _, by omega, row_raise hown' hg7, (HR.out.2.trans (hb6.mono hs)).trans hb7⟩
    · obtain rfl : j = k := by omega
      have h1 := H.out.below hb H.out.inside
      have c2 := h1.cell 2
      simp [rdCells] at c2
      have f2 := h1.free 2
      have hi := h1.inside
      have HB := Lib.hid hb
      clear hown hb h1 hlt
      go_wp2_with fail
      go_ret
      exact ⟨rfl, ((Kept.of_below (F := []) HB.out).mono (fun _ h => absurd h (by simp))).setCell (.inl (by simp)) _⟩
end Go.Proofs.YtpoocbkligjgbaaGreatDoor

namespace Go.Proofs.YtpoocbkligjgbaaGreatDoor
open Go.RowKit Go.Sort Go.Lib

theorem grown_new (most : Int) (k : Nat) (h : (k : Int) ≤ most) : growAE (newS most) k = 0 ∧ growAS (newS most) k = longer (newS most) k := by
  have e : growE (newS most) k = 0 := by
    unfold growE
    rw [if_neg (by simp [newS]), if_neg (by simp [newS]; omega)]
  rw [((newS_idle most).grow _).1, ((newS_idle most).grow _).2]
  refine ⟨e, ?_⟩
  unfold growS
  rw [if_pos e]
  congr 1

set_option maxRecDepth 1000000 in
set_option maxHeartbeats 4000000 in
theorem base7_ok {w : World} {v : Value} {l : List Int} (most : Int) (k : Nat) (h1 : 1 ≤ most) (h2 : most ≤ 3000) (hk : (k : Int) ≤ most) (hv : Reads1 w w.heap.size v (l.map (.int .i64))) (hl : l.length ≤ 50000) :
    Calls Tryz.prog 38 #[.int .i64 most, .int .i64 k, v] w fun e w' => ∃ pd q pf qf FD FF, e = .returned (.tuple #[.pointer (some ⟨pd, 0, none⟩), .pointer (some ⟨q, 0, none⟩), .pointer (some ⟨pf, 0, none⟩), .pointer (some ⟨qf, 0, none⟩), .bool true]) ∧
      DevAt w' pd (longer (newS most) k) FD ∧ FreeIs pf w' FF l 0 [] [] ∧ (∀ x ∈ FD, w.heap.size ≤ x) ∧ (∀ x ∈ FF, w.heap.size ≤ x) ∧ (∀ x ∈ FD, x ∉ FF) ∧ Below w.heap.size w w' := by
  have hnew := new_ok most w h1 h2
  have hform : ∃ A c, v = .slice A l.length c := by obtain ⟨A, c, rfl, _⟩ := hv; exact ⟨A, c, by simp⟩
  obtain ⟨A, c, rfl⟩ := hform
  have HV := Lib.hid (And.intro hv hl)
  have HK := Lib.hid (And.intro h1 (And.intro h2 hk))
  obtain ⟨n0, hn0⟩ : ∃ n, l.length = n := ⟨_, rfl⟩
  rw [hn0]
  have HN0 := Lib.hid hn0
  clear hv hl h1 h2 hk hn0
  go_enter Tryz.func38, Tryz.ntmps38
  go_wp2_with fail
  refine hnew.mono ?_
  rintro e w1 ⟨rfl, hd1, hb1⟩
  have hrn := rnew_ok most w1 HK.out.1 HK.out.2.1
  have hba := alloc_below (w := w1) (.cells (rdCells most) 219)
  have hd2 := (hd1.goes hba).1
  have hq2 := Has.made w1 219 (rdCells most)
  have hlt1 := hd1.lt
  have hgr := grow_any w.heap.size (newS most) [w.heap.size] k _ hd2
  rw [(grown_new most k HK.out.2.2).1, (grown_new most k HK.out.2.2).2] at hgr
  have H1 := Lib.hid (And.intro hb1 (And.intro hba (And.intro hq2 hlt1)))
  clear hnew hd1 hb1 hba hd2 hq2 hlt1
  go_wp2_with fail
  refine hrn.mono ?_
  rintro e w2 ⟨rfl, rfl⟩
  clear hrn
  go_wp2_with fail
  refine hgr.mono ?_
  rintro e w3 ⟨rfl, FD, hd3, hg3⟩
  have hq3 : Has w3 w1.heap.size 219 (rdCells most) := H1.out.2.2.1.kept hg3.1 (by have := H1.out.2.2.2 _ (by simp : w.heap.size ∈ [w.heap.size]); simp; omega)
  have hrg := rgrow_ok w1.heap.size most k w3 HK.out.2.2 HK.out.2.1 hq3
  have hqd : w1.heap.size ∉ FD := fun hF => by
    rcases hg3.2 _ hF with h | h
    · have := H1.out.2.2.2 _ h; omega
    · simp at h; omega
  have hge : ∀ x ∈ FD, w.heap.size ≤ x := fun x hx => by
    rcases hg3.2 x hx with h | h
    · simp at h; omega
    · have := H1.out.1.size; simp at h; omega
  have hb3 : Below w.heap.size w w3 := (H1.out.1.trans (H1.out.2.1.mono H1.out.1.size)).trans (hg3.1.below (by have := H1.out.1.size; simp; omega) (by simp))
  have H3 := Lib.hid (And.intro hd3 (And.intro hqd (And.intro hge (And.intro hb3 hq3.inside))))
  have hqs : w.heap.size ≤ w1.heap.size := H1.out.1.size
  clear hgr hd3 hg3 hq3 hqd hge hb3 H1
  go_wp2_with fail
  refine hrg.mono ?_
  rintro e w4 ⟨rfl, hk4⟩
  obtain ⟨hd3, hqd, hge, hb3, hq3⟩ := H3.out
  have hd4 := hd3.kept hk4 (fun x hx => by simp; exact fun e => hqd (e ▸ hx))
  have hb4 : Below w.heap.size w w4 := hb3.trans (hk4.below hb3.size (by simpa using hqs))
  have hro : ReadsO [] w4 (.slice A l.length c) (l.map (.int .i64)) := (HV.out.1.below hb4).toO hb4.size (by simp)
  have hfn := fnew_any hro (by have := HV.out.2; omega)
  rw [HN0.out] at hfn
  have H4 := Lib.hid (And.intro hd4 (And.intro hge hb4))
  clear hrg hd3 hqd hge hb3 hq3 hk4 hd4 hb4 hro H3
  go_wp2_with fail
  refine hfn.mono ?_
  rintro e w5 ⟨rfl, ⟨FF, hf5, hfge⟩, hb5⟩
  obtain ⟨hd4, hge, hb4⟩ := H4.out
  have hdlt := hd4.lt
  have hap : ∀ x ∈ FD, x ∉ FF := fun x hx hf => by have := hdlt x hx; have := hfge x hf; omega
  have hd5 := hd4.kept (G := []) (Kept.of_below hb5) (by simp)
  have hbb : Below w.heap.size w w5 := hb4.trans (hb5.mono hb4.size)
  have hre : Reads1 w5 w5.heap.size (.slice A l.length c) (l.map (.int .i64)) := (HV.out.1.below hbb).mono hbb.size
  have hso := refSorted_any hre HV.out.2
  rw [HN0.out] at hso
  have hfg2 : ∀ x ∈ FF, w.heap.size ≤ x := fun x hx => Nat.le_trans hb4.size (hfge x hx)
  have H5 := Lib.hid (And.intro hd5 (And.intro hf5 (And.intro hge (And.intro hfg2 (And.intro hap hbb)))))
  clear hfn hd4 hge hb4 hdlt hap hd5 hbb hre hf5 hfge hb5 hfg2 H4
  go_wp2_with fail
  refine hso.mono ?_
  rintro e w6 ⟨v6, m6, rfl, -, -, hr6, hb6⟩
  obtain ⟨A6, c6, hform6⟩ := row_form hr6
  subst hform6
  have H6 := Lib.hid hb6
  clear hso hr6 hb6
  go_wp2_with fail
  have hal := alloc_below (w := w6) (.cells #[.slice A6 m6.length c6, .slice none 0 0, .slice none 0 0] 158)
  obtain ⟨hd5, hf5, hge, hfg2, hap, hbb⟩ := H5.out
  have hb6 := H6.out
  have hb7 : Below w5.heap.size w5 (w6.alloc (.cells #[.slice A6 m6.length c6, .slice none 0 0, .slice none 0 0] 158)) := hb6.trans (hal.mono hb6.size)
  refine bodyPost_ret (v := .tuple #[.pointer (some ⟨w.heap.size, 0, none⟩), .pointer (some ⟨w1.heap.size, 0, none⟩), .pointer (some ⟨w4.heap.size, 0, none⟩), .pointer (some ⟨w6.heap.size, 0, none⟩), .bool true]) (by simp [results, Tryz.results38, go_sem]) rfl ⟨_, _, _, _, FD, FF, rfl, hd5.kept (G := []) (Kept.of_below hb7) (by simp), hf5.below hb7, hge, hfg2, hap, hbb.trans (hb7.mono hbb.size)⟩
end Go.Proofs.YtpoocbkligjgbaaGreatDoor

namespace Go.Proofs.YtpoocbkligjgbaaGreatDoor
open Go.RowKit Go.Sort Go.Lib

/-- In world w stands a pager, in blocks that are made since w0; nothing that was there then has turned. -/
def PgRun (w0 : World) (p pd pf b : Nat) (s : PgS) (w : World) : Prop := ∃ F, PgIs p pd pf b s F w ∧ (∀ x ∈ F, w0.heap.size ≤ x) ∧ Below w0.heap.size w0 w

section
variable {w0 w w' : World} {p pd pf b : Nat} {s s' : PgS}
theorem PgRun.step (h : PgRun w0 p pd pf b s w) : ∃ F, PgIs p pd pf b s F w ∧ ∀ s' w', (∃ F', PgIs p pd pf b s' F' w' ∧ Goes F w F' w') → PgRun w0 p pd pf b s' w' := by
  obtain ⟨F, h1, h2, h3⟩ := h
  refine ⟨F, h1, fun s' w' ⟨F', h4, h5⟩ => ⟨F', h4, fun x hx => (h5.2 x hx).elim (h2 x) (fun h => Nat.le_trans h3.size h), h3.trans (h5.1.below h3.size h2)⟩⟩
theorem PgRun.below (h : PgRun w0 p pd pf b s w) (hb : Below w.heap.size w w') : PgRun w0 p pd pf b s w' := by
  obtain ⟨F, h1, h2, h3⟩ := h
  exact ⟨F, h1.below hb, h2, h3.trans (hb.mono h3.size)⟩
theorem PgRun.out (h : PgRun w0 p pd pf b s w) : Below w0.heap.size w0 w := by
  obtain ⟨F, h1, h2, h3⟩ := h
  exact h3
/-- A pager of a device and of free pages that were made here. -/
theorem PgRun.new {F' FD FF : List Nat} {w1 : World} (hp : PgIs p pd pf b s F' w') (h1 : ∀ x ∈ F', x ∈ FD ∨ x ∈ FF ∨ w1.heap.size ≤ x) (hd : ∀ x ∈ FD, w0.heap.size ≤ x) (hf : ∀ x ∈ FF, w0.heap.size ≤ x) (hb : Below w0.heap.size w0 w1) (hb' : Below w1.heap.size w1 w') : PgRun w0 p pd pf b s w' :=
  ⟨F', hp, fun x hx => (h1 x hx).elim (hd x) (fun h => h.elim (hf x) (fun h => Nat.le_trans hb.size h)), hb.trans (hb'.mono hb.size)⟩
end

theorem longer_new_len (most : Int) (k : Nat) : (longer (newS most) k).pages.length = k := by simp [longer, newS]
theorem longer_len (d : DevS) (k : Nat) : (longer d k).pages.length = d.pages.length + k := by simp [longer]

namespace first7
def s0 : PgS := newPg (longer (newS 9) 2) [] 0 [] [] 2 1
def s1 : PgS := keptS { s0 with pages := s0.pages + 1, dev := longer s0.dev 1 } s0.pages ⟨1, 2, 0, ⟨#[120]⟩⟩
def s2 : PgS := { keptS s1 2 (chg0 3) with spare := 2 :: s1.spare }
def s3 : PgS := keptS { s2 with spare := [] } 2 ⟨1, 2, 0, ⟨#[121]⟩⟩
theorem h1 : s1.H 2 = ⟨1, 2, 0, ⟨#[120]⟩⟩ := by simp [s1, keptS, upd, s0, newPg]
theorem h3 : s3.H 2 = ⟨1, 2, 0, ⟨#[121]⟩⟩ := by simp [s3, keptS, upd]
end first7

end Go.Proofs.YtpoocbkligjgbaaGreatDoor

namespace Go.Proofs.YtpoocbkligjgbaaGreatDoor
open Go.RowKit Go.Sort Go.Lib

/-- pv is a nil pager, or a zero one. -/
def NoPg (w : World) (pv : Value) : Prop := pv = .pointer none ∨ ∃ z, pv = .pointer (some ⟨z, 0, none⟩) ∧ z < w.heap.size ∧ w.cell? ⟨z, 0, none⟩ = some (.pointer none)
theorem NoPg.below {w w' : World} {pv : Value} (h : NoPg w pv) (hb : Below w.heap.size w w') : NoPg w' pv := by
  rcases h with h | ⟨z, h, hi, hc⟩
  · exact .inl h
  · exact .inr ⟨z, h, Nat.lt_of_lt_of_le hi hb.size, (hb.cell (p := ⟨z, 0, none⟩) hi).trans hc⟩
theorem NoPg.none {w : World} {pv : Value} (h : NoPg w pv) : Calls Tryz.prog 47 #[pv] w fun e w' => e = .returned (.bool true) ∧ w = w' := by
  rcases h with rfl | ⟨z, rfl, _, hc⟩
  · exact gnone_nil w
  · exact gnone_zero z w hc









set_option maxRecDepth 1000000 in
set_option maxHeartbeats 1000000 in
theorem gread_no {w : World} {pv : Value} (h : NoPg w pv) (x : Int) : Calls Tryz.prog 39 #[pv, .int .i64 x] w fun e w' => e = .returned (.tuple #[.agg #[.int .i64 0, .int .i64 0, .string ⟨#[]⟩], .int .i64 1]) ∧ Below w.heap.size w w' := by
  have hb := alloc_below (w := w) (.cells #[.int .i64 0, .int .i64 0, .string ⟨#[]⟩] 60)
  have hn := (h.below hb).none
  have HB := Lib.hid hb
  clear h hb
  go_enter Tryz.func39, Tryz.ntmps39
  go_wp2_with (go_at_call 47; refine hn.mono ?_; rintro e w' ⟨rfl, rfl⟩)
  exact bodyPost_ret (v := .tuple #[.agg #[.int .i64 0, .int .i64 0, .string ⟨#[]⟩], .int .i64 1]) (by simp [results, Tryz.results39, go_sem]) rfl ⟨rfl, HB.out⟩

set_option maxRecDepth 1000000 in
set_option maxHeartbeats 1000000 in
theorem gmake_no {w : World} {pv : Value} (h : NoPg w pv) (k n : Int) (t : ByteArray) : Calls Tryz.prog 34 #[pv, .agg #[.int .i64 k, .int .i64 n, .string t]] w fun e w' => e = .returned (.tuple #[.int .i64 0, .int .i64 1]) ∧ Below w.heap.size w w' := by
  have hb := alloc_below (w := w) (.cells #[.int .i64 k, .int .i64 n, .string t] 60)
  have hn := (h.below hb).none
  have HB := Lib.hid hb
  clear h hb
  go_enter Tryz.func34, Tryz.ntmps34
  go_wp2_with (go_at_call 47; refine hn.mono ?_; rintro e w' ⟨rfl, rfl⟩)
  go_ret2
  exact ⟨rfl, HB.out⟩



end Go.Proofs.YtpoocbkligjgbaaGreatDoor
