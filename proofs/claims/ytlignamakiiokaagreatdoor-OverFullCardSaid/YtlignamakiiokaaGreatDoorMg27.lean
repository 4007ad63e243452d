/-
  A pager's lists of what was made and dropped: a range over its map, sorted. A pager's Made, Dropped, Spare, write, begin.
-/
import Derived.Test.YtlignamakiiokaaGreatDoorMg24
import Derived.Test.YtlignamakiiokaaGreatDoorMg26
namespace Go.Proofs.YtlignamakiiokaaGreatDoor
open Go.RowKit Go.Sort Go.Maps

theorem ranges_kept {P : Program} {k : TypeId} {R : Value → Option (DataW Unit × List MemPlace)} {b r n cnt : Nat} {D : DataW Unit} {left : Lit → Bool} {G : List Nat} {w w' : World} (h : w.ranges P k R b r n D left cnt) (hk : Kept G w w') (hb : b ∉ G) (hr : r ∉ G) : w'.ranges P k R b r n D left cnt := by
  obtain ⟨es, clock, since, seen, c0, hb0, F, hs, hD, hr0, rest⟩ := h
  exact ⟨es, clock, since, seen, c0, chan_kept hb0 hk hb, F, hs, hD, chan_kept hr0 hk hr, rest⟩
theorem ranges_few {P : Program} {k : TypeId} {R : Value → Option (DataW Unit × List MemPlace)} {b n : Nat} {D : DataW Unit} {w : World} (h : w.ownsMap P k R b n D) : Maps.size D ≤ n := by
  obtain ⟨es, clock, _, _, hs, rfl⟩ := h
  simp only [Maps.size, length_sorted, List.length_map, Array.length_toList]
  exact hs

/-- What has been seen of a map: those of a fate that are no longer to come. -/
def Seen (H : Int → Chg) (f : Int) (left : Lit → Bool) (L : List Int) : Prop := L.Nodup ∧ (∀ x ∈ L, IsInt x) ∧ ∀ x, x ∈ L ↔ (H x).fate = f ∧ left (.int .i64 x) = false
theorem seen_start {H : Int → Chg} {f : Int} {D : DataW Unit} (hv : ∀ x : Int, D.atKey (.int .i64 x) (chgD noChg) = chgD (H x)) (hf : f ≠ 0) : Seen H f (Maps.has D) [] := by
  refine ⟨List.nodup_nil, by simp, fun x => ⟨by simp, fun ⟨h1, h2⟩ => ?_⟩⟩
  have := chgD_inj ((hv x).symm.trans (atKey_of_not_has h2 _))
  rw [this] at h1
  exact absurd h1.symm hf
theorem seen_new {H : Int → Chg} {f x : Int} {left : Lit → Bool} {L : List Int} (h : Seen H f left L) (hx : IsInt x) (hl : left (.int .i64 x) = true) (hf : (H x).fate = f) : Seen H f (fun z => left z && !z.sameKey (.int .i64 x)) (L ++ [x]) := by
  obtain ⟨h1, h2, h3⟩ := h
  have hn : x ∉ L := fun hx => by rw [((h3 x).1 hx).2] at hl; cases hl
  refine ⟨List.nodup_append.2 ⟨h1, by simp, fun a ha c hc => by simp at hc; subst hc; exact fun e => hn (e ▸ ha)⟩, fun y hy => ?_, fun y => ?_⟩
  · rcases List.mem_append.1 hy with h | h
    · exact h2 y h
    · simp at h; subst h; exact hx
  · by_cases e : y = x
    · subst e
      simp [hf, Lit.sameKey]
    · have hs : (Lit.int .i64 y).sameKey (.int .i64 x) = false := by simp [Lit.sameKey, e]
      simp only [hs, List.mem_append, List.mem_singleton, h3 y, e, or_false, Bool.not_false, Bool.and_true]
theorem seen_old {H : Int → Chg} {f x : Int} {left : Lit → Bool} {L : List Int} (h : Seen H f left L) (hf : (H x).fate ≠ f) : Seen H f (fun z => left z && !z.sameKey (.int .i64 x)) L := by
  obtain ⟨h1, h2, h3⟩ := h
  refine ⟨h1, h2, fun y => ?_⟩
  by_cases e : y = x
  · subst e
    simp [h3 y, hf]
  · have hs : (Lit.int .i64 y).sameKey (.int .i64 x) = false := by simp [Lit.sameKey, e]
    simp only [hs, h3 y, Bool.not_false, Bool.and_true]

/-- The numbers of a fate, rising. -/
def Fated (H : Int → Chg) (f : Int) (L : List Int) : Prop := L.Pairwise (· < ·) ∧ (∀ x ∈ L, IsInt x) ∧ ∀ x, x ∈ L ↔ (H x).fate = f
theorem fated_of {H : Int → Chg} {f : Int} {left : Lit → Bool} {L : List Int} (h : Seen H f left L) (hl : ∀ k, left k = false) : Fated H f (L.mergeSort leInt) := by
  obtain ⟨h1, h2, h3⟩ := h
  have hp := List.mergeSort_perm L leInt
  refine ⟨?_, fun x hx => h2 x (hp.mem_iff.1 hx), fun x => by rw [hp.mem_iff, h3 x]; simp [hl]⟩
  have hs := srt_le L
  have hn : (L.mergeSort leInt).Pairwise (· ≠ ·) := (hp.nodup_iff).2 h1
  exact (hs.and hn).imp (fun {a b} h => by omega)

section
variable {p pd pf b : Nat} {s : PgS} {F : List Nat} {w : World}
set_option maxRecDepth 1000000 in
set_option maxHeartbeats 4000000 in
theorem gwith_any (f : Int) (hf : f ≠ 0) (hn : s.n ≤ 1000000) (h : PgIs p pd pf b s F w) :
    Calls Tryz.prog 63 #[.pointer (some ⟨p, 0, none⟩), .int .i64 f] w fun e w' => ∃ v' L, e = .returned v' ∧ w'.ownsRow w.heap.size 3 1 v' L.length (L.map (.int .i64)) ∧ Fated s.H f L ∧ L.length ≤ s.n ∧ Below w.heap.size w w' := by
  obtain ⟨v, hpc⟩ := h.cells
  obtain ⟨c0, -, -, -, -, c9⟩ := pg_cells hpc
  have hn0 := gnone_at p pd w c0
  obtain ⟨D, ho, hv⟩ := h.here
  have hbl := ho.lt
  have HBL := Lib.hid hbl
  have hfew := ranges_few ho
  have hst := seen_start hv hf
  have HV := Lib.hid (And.intro hv (And.intro hst hfew))
  obtain ⟨N, hN⟩ : ∃ N, s.n = N := ⟨_, rfl⟩
  obtain ⟨H, hH⟩ : ∃ H, s.H = H := ⟨_, rfl⟩
  rw [hN] at hn ho HV ⊢
  rw [hH] at HV ⊢
  clear hpc h hv hst hfew hN hH
  go_enter Tryz.func63, Tryz.ntmps63
  go_wp2_with (first
    | (go_at_call 50; refine hn0.mono ?_; rintro e w' ⟨rfl, rfl⟩)
    | (at_range; refine wpList_range_own _ rfl _ 97 rfl 3 190 intKey Tryz.underlying97 chgR b N D rfl ho ?_; intro w0 hrg0 hg0 hs0))
  go_frame
  go_loopw [5] (fun lv wr => ∃ (L : List Int) (left : Lit → Bool) (cnt : Nat), wr.ranges Tryz.prog 3 chgR b w.heap.size N D left cnt ∧ L.length + cnt ≤ N ∧ wr.ownsRow (w.heap.size + 1) 3 1 lv L.length (L.map (.int .i64)) ∧ Seen H f left L ∧ Below w.heap.size w wr ∧ w.heap.size + 1 ≤ wr.heap.size)
    (fun _ wr => wr.rangeLeft b w.heap.size)
  case atStart =>
    exact ⟨[], _, _, hrg0, by have := HV.out.2.2; simp; exact this, World.ownsRow_nil _ _ _ _, HV.out.2.1, below_of_grownBy' hg0 (Nat.le_refl _) (fun g h => by cases h), by omega⟩
  case round =>
    obtain ⟨L, left, cnt, hrg, hLc, hown, hseen, hnx, hsz⟩ := hrel
    have HS := Lib.hid (And.intro hseen (And.intro hnx hLc))
    clear hseen hnx hLc
    go_wp2_with (first
      | (at_next; refine wpList_next_ranges _ rfl _ rfl 3 intKey chgR (Value.int .i64) chgV (fun key kl hkey => by obtain ⟨x, rfl, _⟩ := Maps.keyOf_int_inv Tryz.underlying3 hkey; exact ⟨x, rfl⟩) (fun v y hv => by obtain ⟨c, rfl, _⟩ := chgR_inv hv; exact ⟨c, rfl⟩) b w.heap.size N _ _ _ rfl hrg ?_ ?_))
    · intro hc0 hl0
      obtain ⟨hseen, hnx, hLc⟩ := HS.out
      have hfat := fated_of hseen hl0
      have hso := sort_own hown (by omega)
      have hLn : L.length ≤ N := by omega
      have HF := Lib.hid (And.intro hfat (And.intro hnx hLn))
      have hown' := Lib.hid hown
      obtain ⟨A, cc, hform⟩ := row_form hown
      obtain ⟨m, hm⟩ : ∃ m, L.length = m := ⟨_, rfl⟩
      rw [hm] at hform hso
      have HM := Lib.hid hm
      subst hform
      clear hrg hown hfat hseen hnx hLc hLn HS c0 c9 hn0 ho hbl HV hm
      go_wp2_with fail
      refine hso.mono ?_
      rintro e w2 ⟨rfl, hr2, hg2⟩
      have HR := Lib.hid (And.intro hr2 hg2)
      clear hso hr2 hg2
      go_wp2_with fail
      go_ret
      obtain ⟨hfat, hnx, hLn⟩ := HF.out
      obtain ⟨hr2, hg2⟩ := HR.out
      refine ⟨_, L.mergeSort leInt, rfl, ?_, hfat, ?_, ?_⟩
      · rw [List.length_mergeSort, HM.out]
        exact row_raise (row_base0 hr2) (fun g hg => by have := (hr2.lt g hg).1; omega)
      · rw [List.length_mergeSort]
        exact hLn
      · refine hnx.trans (below_of_grownBy' hg2 hnx.size (fun g hg => ?_))
        have := (hown'.out.lt g hg).1
        omega
    · intro x c kl y pl w1 cnt1 hkey hlx hR hat hrg1 hlt hg1 hs1 hen
      obtain ⟨x', hx', rfl, hwx⟩ := Maps.keyOf_int_inv Tryz.underlying3 hkey
      obtain rfl : x = x' := by simpa using hx'
      have hix := isInt_of_wf' hwx
      rw [chgR_mk] at hR
      obtain ⟨rfl, rfl⟩ : chgD c = y ∧ [] = pl := by simpa using hR
      have hHx : H x = c := chgD_inj ((HV.out.1 x).symm.trans (hat _))
      unfold chgV at hen
      obtain ⟨hseen, hnx, hLc⟩ := HS.out
      have hk1 : Kept [w.heap.size] wr w1 := Kept.of_grown hg1 (fun k e => by cases e; simp)
      have hown1 := row_kept hown hk1 (fun g hg => by have := (hown.lt g hg).1; simp; omega)
      have hge := fun g hg => (hown.lt g hg).1
      have hnx1 : Below w.heap.size w w1 := hnx.trans (hk1.below (by omega) (by simp))
      have HS2 := Lib.hid (And.intro hseen (And.intro hnx1 (And.intro hLc (And.intro hge (And.intro hHx (And.intro hlx hix))))))
      have HR1 := Lib.hid (And.intro hrg (And.intro hrg1 (And.intro hlt (show w.heap.size + 1 ≤ w1.heap.size by omega))))
      obtain ⟨cf, ck, cn, ct⟩ := c
      simp only at hen
      by_cases hcf : cf = f
      · obtain ⟨i0, hi0, hzz0, hzz1, hzz2⟩ := info_parts Tryz.infoInt
        have hra := World.ownsRow.alloc (World.ownsRow.alloc (row_base0 hown1) (.cells #[.int .i64 cf, .int .i64 ck, .int .i64 cn, .string ct] 190)) (.cells #[.int .i64 x] 3)
        have hcl := cell_one_new (w1.alloc (.cells #[.int .i64 cf, .int .i64 ck, .int .i64 cn, .string ct] 190)) (.int .i64 x) 3
        rw [show (w1.alloc (.cells #[.int .i64 cf, .int .i64 ck, .int .i64 cn, .string ct] 190)).heap.size = w1.heap.size + 1 by simp] at hcl
        have hLb : L.length ≤ 1000000 := by omega
        obtain ⟨m, hm⟩ : ∃ m, L.length = m := ⟨_, rfl⟩
        rw [hm] at hra hLb
        have HM := Lib.hid hm
        have hbe : (cf == f) = true := by simpa using hcf
        have HCF := Lib.hid hcf
        clear hown hown1 hge hnx hnx1 hseen hLc hHx hlx hrg hrg1 hlt hg1 hs1 hk1 hat hkey hx' HS hm hcf c0 c9 hn0 ho hbl hsz
        go_wp2_with (at_builtin; refine wpList_append_keeps rfl _ _ 69 3 i0 (.int .i64 0) 1 8 Tryz.underlying69 hi0 hzz0 hzz1 hzz2 rfl (by decide) rfl _ u5 m _ rfl hra ⟨w1.heap.size + 1, 0, none⟩ 1 1 rfl [.int .i64 x] rfl hcl (by intro u hu; simp at hu; subst hu; rfl) (by omega) (by unfold maxLen; omega) (by omega) ?_; intro v' w' hown' hgn)
        go_roundw
        case rel =>
          obtain ⟨hseen, hnx1, hLc, hge, hHx, hlx, hix⟩ := HS2.out
          obtain ⟨hrg, hrg1, hlt, hsz1⟩ := HR1.out
          have hbl := hrg.owns.lt
          have hnb : ∀ z, z < w.heap.size + 1 → z ∉ (Value.ownBlock u5).toList := fun z hz hm => by have := hge z (by simpa using hm); omega
          have hrg2 := ranges_kept ((hrg1.alloc (.cells #[.int .i64 cf, .int .i64 ck, .int .i64 cn, .string ct] 190)).alloc (.cells #[.int .i64 x] 3)) hgn.1.1 (hnb b (by have := HBL.out; omega)) (hnb _ (by omega))
          have hb2 : Below w1.heap.size w1 ((w1.alloc (.cells #[.int .i64 cf, .int .i64 ck, .int .i64 cn, .string ct] 190)).alloc (.cells #[.int .i64 x] 3)) := (alloc_below _).alloc (by simp) _
          obtain ⟨hb3, hg3⟩ := hgn.below (base := w.heap.size + 1) (Nat.le_trans hsz1 hb2.size) hge
          refine ⟨L ++ [x], _, cnt1, hrg2, by simp; omega, ?_, seen_new hseen hix hlx (by rw [hHx]; exact HCF.out), (hnx1.trans (hb2.mono (by omega))).trans (hb3.mono (by omega)), Nat.le_trans hsz1 (Nat.le_trans hb2.size hb3.size)⟩
          have h5 := row_raise hown' hg3
          simpa [HM.out] using h5
        case measure =>
          obtain ⟨hseen, hnx1, hLc, hge, hHx, hlx, hix⟩ := HS2.out
          obtain ⟨hrg, hrg1, hlt, hsz1⟩ := HR1.out
          have hnb : ∀ z, z < w.heap.size + 1 → z ∉ (Value.ownBlock u5).toList := fun z hz hm => by have := hge z (by simpa using hm); omega
          have hrg2 := ranges_kept ((hrg1.alloc (.cells #[.int .i64 cf, .int .i64 ck, .int .i64 cn, .string ct] 190)).alloc (.cells #[.int .i64 x] 3)) hgn.1.1 (hnb b (by have := HBL.out; omega)) (hnb _ (by omega))
          rw [hrg2.left_eq, hrg.left_eq]
          exact hlt
      · have hbe : (cf == f) = false := by simpa using hcf
        have HCF := Lib.hid hcf
        have HO := Lib.hid hown1
        clear hown hown1 hge hnx hnx1 hseen hLc hHx hlx hrg hrg1 hlt hg1 hs1 hk1 hat hkey hx' HS hcf c0 c9 hn0 ho hbl hsz
        go_wp2_with fail
        go_roundw
        case rel =>
          obtain ⟨hseen, hnx1, hLc, hge, hHx, hlx, hix⟩ := HS2.out
          obtain ⟨hrg, hrg1, hlt, hsz1⟩ := HR1.out
          have hb2 : Below w1.heap.size w1 (w1.alloc (.cells #[.int .i64 cf, .int .i64 ck, .int .i64 cn, .string ct] 190)) := alloc_below _
          refine ⟨L, _, cnt1, hrg1.alloc _, by omega, World.ownsRow.alloc HO.out _, seen_old hseen (by rw [hHx]; exact HCF.out), hnx1.trans (hb2.mono (by omega)), Nat.le_trans hsz1 hb2.size⟩
        case measure =>
          obtain ⟨hrg, hrg1, hlt, hsz1⟩ := HR1.out
          rw [(hrg1.alloc _).left_eq, hrg.left_eq]
          exact hlt
end
end Go.Proofs.YtlignamakiiokaaGreatDoor

namespace Go.Proofs.YtlignamakiiokaaGreatDoor
open Go.RowKit Go.Sort

section
variable {p pd pf b : Nat} {s : PgS} {F : List Nat} {w : World}

set_option maxRecDepth 1000000 in
set_option maxHeartbeats 1000000 in
theorem gmade_any (hn : s.n ≤ 1000000) (h : PgIs p pd pf b s F w) :
    Calls Tryz.prog 30 #[.pointer (some ⟨p, 0, none⟩)] w fun e w' => ∃ v' L, e = .returned v' ∧ w'.ownsRow w.heap.size 3 1 v' L.length (L.map (.int .i64)) ∧ Fated s.H 1 L ∧ L.length ≤ s.n ∧ Below w.heap.size w w' := by
  have hw := gwith_any 1 (by decide) hn h
  clear h hn
  go_enter Tryz.func30, Tryz.ntmps30
  go_wp2_with fail
  refine hw.mono ?_
  rintro e w1 ⟨v', L, rfl, h1, h2, h3, h4⟩
  have H := Lib.hid (And.intro h1 (And.intro h2 (And.intro h3 h4)))
  clear h1 h2 h3 h4 hw
  go_wp2_with fail
  go_ret
  exact ⟨v', L, rfl, H.out⟩




end
end Go.Proofs.YtlignamakiiokaaGreatDoor
