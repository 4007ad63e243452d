/-
  A change of a tree that is one leaf: what is left, the new item, the new leaf. What types the blocks of a change have: rows of other types stay, whatever the pager does. Parts of items, in memory; those that go into one page. Leaves that are made of parts of items.
-/
import Derived.Test.YtpoocbkligjgbaaGreatDoorMg36
import Derived.Test.YtpoocbkligjgbaaGreatDoorMg35
import Derived.Test.YtpoocbkligjgbaaGreatDoorMg5
import Derived.Test.YtpoocbkligjgbaaGreatDoorMg28
namespace Go.Proofs.YtpoocbkligjgbaaGreatDoor
open Go.RowKit Go.Sort Go.Lib

section
variable {cb p pd pf b : Nat} {c : ChS} {F : List Nat} {w : World}

/-- append(row, x) of one number: the run. -/
theorem run_append_one {v : Value} {l : List Int} (hown : NInts w 0 v l) (y : Int) (hlen : l.length ≤ 1000000) (ty : TypeId) :
    ∃ A' c' w', (Builtin.append_ #[49, 49] ty #[v, .slice (some ⟨w.heap.size, 0, none⟩) 1 1]).run Tryz.prog (w.alloc (.cells #[.int .i64 y] 3)) = .ok (.slice A' (l.length + 1) c') w' ∧ NInts w' 0 (.slice A' (l.length + 1) c') (l ++ [y]) ∧ Placed w v (.slice A' (l.length + 1) c') ∧ w.grownBy w' v.ownBlock := by
  obtain ⟨v', w', h1, h2, h3, h4⟩ := run_append_fresh 49 ty 3 (.int .i64 0) 8 Tryz.underlying49 Tryz.infoIntO rfl (by decide) w v l.length _ hown (.int .i64 y) rfl hlen
  obtain ⟨A', c', rfl⟩ := row_form h2
  refine ⟨A', c', w', h1, ?_, ?_, h4⟩
  · unfold NInts
    rw [List.length_append, List.map_append]
    exact h2
  · rcases h3 with ⟨h5, _⟩ | ⟨k, h5, h6⟩
    · exact .inl h5
    · exact .inr ⟨k, h5, Nat.le_of_lt h6⟩

set_option maxRecDepth 100000 in
set_option maxHeartbeats 4000000 in
/-- What a change of a tree that is one leaf leaves: the leaf. -/
theorem chleave_one (A : Option Addr) (cc : Nat) (page : Int) (l : List Itm) (key : ByteArray) (hok : OKL l) (hz : sz l ≤ 240) (hr : w.ownsRow 0 126 4 (.slice A l.length cc) l.length (ilist l)) (ho : (itemAt l key).over = 0) (hm : c.old.length ≤ 1000) (h : ChAt cb p pd pf b c F w) :
    Calls Tryz.prog 86 #[.pointer (some ⟨cb, 0, none⟩), .agg #[.slice none 0 0, .int .i64 page, .slice A l.length cc], .string key] w fun e w' => e = .returned (.int .i64 0) ∧ ∃ F', ChAt cb p pd pf b { c with old := c.old ++ [page] } F' w' ∧ Goes F w F' w' := by
  obtain ⟨v1, v2, F0, hp, rfl⟩ := h
  have hba := alloc_below (w := w) (.cells #[.slice none 0 0, .int .i64 page, .slice A l.length cc] 122)
  have hX := Has.made w 122 #[.slice none 0 0, .int .i64 page, .slice A l.length cc]
  have hp1 := hp.below hba
  have hr1 := row_below hr hba
  obtain ⟨B, hB⟩ : ∃ B, w.heap.size = B := ⟨_, rfl⟩
  have hcbB : cb ≠ B := by have := hp.has.inside; omega
  rw [hB] at hX
  have HW := Lib.hid (goes_below (G := chF cb v1 v2 F0) hba)
  have HBB := Lib.hid hB
  go_enter Tryz.func86, Tryz.ntmps86
  go_wp2_with fail
  generalize w.alloc (.cells #[.slice none 0 0, .int .i64 page, .slice A l.length cc] 122) = w1 at *
  have hXi := hX.inside
  have HP := Lib.hid (And.intro hp1 (And.intro hX (And.intro hr1 (And.intro hok (And.intro hz ho)))))
  clear hp1 hX hr1 hok hz ho hp hr hba hB
  go_loopg [16] 0 (fun g iv wr => iv = .int .i64 0 ∧ w1 = wr)
  case atStart => exact ⟨rfl, rfl⟩
  case round =>
    obtain ⟨rfl, rfl⟩ := hrel
    obtain ⟨hp1, hX, hr1, hok, hz, ho⟩ := HP.out
    have k1 : w1.drew.cell? ⟨B, 1, none⟩ = some (.int .i64 page) := by have := hX.cell 1; simpa using this
    have k2 : w1.drew.cell? ⟨cb, 2, none⟩ = some v2 := by have := hp1.has.cell 2; simpa using this
    have hpd := hp1.kept0 ((Kept.refl [] w1).drew)
    obtain ⟨A2, c2, w2, hrun, hr2, hpl, hgr⟩ := run_append_one hpd.r2 page (by omega) 49
    have hpa := hpd.below (alloc_below (.cells #[.int .i64 page] 3))
    have ka1 : (w1.drew.alloc (.cells #[.int .i64 page] 3)).cell? ⟨B, 1, none⟩ = some (.int .i64 page) := by
      have := ((hX.kept ((Kept.refl [] w1).drew) (by simp)).alloc (.cells #[.int .i64 page] 3)).cell 1
      simpa using this
    have ka2 : (w1.drew.alloc (.cells #[.int .i64 page] 3)).cell? ⟨cb, 2, none⟩ = some v2 := by have := hpa.has.cell 2; simpa using this
    obtain ⟨h1, h2⟩ := hpd.left hr2 hpl hgr
    have hh2 := hasT_grown hpd.has (by decide) hpd.r2 hgr
    have kb1 : w2.cell? ⟨B, 1, none⟩ = some (.int .i64 page) := by
      have := (hasT_grown (hX.kept ((Kept.refl [] w1).drew) (by simp)) (by decide) hpd.r2 hgr).cell 1
      simpa using this
    have kb2 : w2.cell? ⟨cb, 2, none⟩ = some v2 := by have := hh2.cell 2; simpa using this
    have kf2 := hh2.free 2
    have hX3 := (hasT_grown (hX.kept ((Kept.refl [] w1).drew) (by simp)) (by decide) hpd.r2 hgr).past (p := ⟨cb, 2, none⟩) (Ne.symm hcbB) (.slice A2 (c.old.length + 1) c2)
    have hr3 : (w2.setCell ⟨cb, 2, none⟩ (.slice A2 (c.old.length + 1) c2)).ownsRow 0 126 4 (.slice A l.length cc) l.length (ilist l) := row_put (rowO_grown (row_kept hr1 ((Kept.refl [] w1).drew) (by simp)) (by decide) hpd.r2 hgr) hh2 (by decide)
    have hit := item_any none A 0 0 cc page l key _ hok (by have := leaf_few hok hz; omega) hr3
    have HX := Lib.hid (And.intro hrun (And.intro h1 h2))
    have HX3 := Lib.hid hX3
    have hg0 : ((itemAt l key).over == 0) = true := by rw [ho]; rfl
    obtain ⟨x, hx⟩ : ∃ x, itemAt l key = x := ⟨_, rfl⟩
    rw [hx] at hit hg0
    clear hp1 hX hr1 hok hz ho hpd hrun hr2 hpl hgr hpa h1 h2 hh2 hX3 hr3 hx
    go_wp2_with fail
    have hS : w1.drew.cell? ⟨cb, 2, none⟩ = some v2 ∧ w1.drew.cell? ⟨B, 1, none⟩ = some (.int .i64 page) := ⟨k2, k1⟩
    refine wp_region_tills (fun w' => w'.cell? ⟨cb, 2, none⟩ = some v2 ∧ w'.cell? ⟨B, 1, none⟩ = some (.int .i64 page)) 9 (by kernel_rfl) ?_
    refine till_takeAt 32 (i := 0) (v := .pointer (some ⟨cb, 0, none⟩)) rfl rfl (by kernel_rfl) (by kernel_rfl) (by kernel_rfl) (by kernel_rfl) (by kernel_rfl) (fun _ _ _ h => h) (Or.inl ⟨by rfl, fun w' hw' => by obtain q1 := hw'; go_simp⟩) hS ?_
    simp only [List.setIfInBounds_toArray, List.set_cons_zero, List.set_cons_succ]
    refine till_takeAt 33 (i := 1) (v := .pointer (some ⟨cb, 0, none⟩)) rfl rfl (by kernel_rfl) (by kernel_rfl) (by kernel_rfl) (by kernel_rfl) (by kernel_rfl) (fun _ _ _ h => h) (Or.inl ⟨by rfl, fun w' hw' => by obtain q1 := hw'; go_simp⟩) hS ?_
    simp only [List.setIfInBounds_toArray, List.set_cons_zero, List.set_cons_succ]
    refine till_takeAt 34 (i := 2) (v := .pointer (some ⟨cb, 0, none⟩)) rfl rfl (by kernel_rfl) (by kernel_rfl) (by kernel_rfl) (by kernel_rfl) (by kernel_rfl) (fun _ _ _ h => h) (Or.inl ⟨by rfl, fun w' hw' => by obtain q1 := hw'; go_simp⟩) hS ?_
    simp only [List.setIfInBounds_toArray, List.set_cons_zero, List.set_cons_succ]
    refine till_takeAt 35 (i := 3) (v := .pointer (some ⟨cb, 2, none⟩)) rfl rfl (by kernel_rfl) (by kernel_rfl) (by kernel_rfl) (by kernel_rfl) (by kernel_rfl) (fun _ _ _ h => h) (Or.inl ⟨by rfl, fun w' hw' => by obtain q1 := hw'; go_simp⟩) hS ?_
    simp only [List.setIfInBounds_toArray, List.set_cons_zero, List.set_cons_succ]
    refine till_takeAt 36 (i := 4) (v := v2) rfl rfl (by kernel_rfl) (by kernel_rfl) (by kernel_rfl) (by kernel_rfl) (by kernel_rfl) (fun _ _ _ h => h) (Or.inl ⟨by rfl, fun w' hw' => by obtain q1 := hw'; go_simp⟩) hS ?_
    simp only [List.setIfInBounds_toArray, List.set_cons_zero, List.set_cons_succ]
    refine till_takeAt 37 (i := 5) (v := .pointer (some ⟨B, 1, none⟩)) rfl rfl (by kernel_rfl) (by kernel_rfl) (by kernel_rfl) (by kernel_rfl) (by kernel_rfl) (fun _ _ _ h => h) (Or.inl ⟨by rfl, fun w' hw' => by obtain q1 := hw'; go_simp⟩) hS ?_
    simp only [List.setIfInBounds_toArray, List.set_cons_zero, List.set_cons_succ]
    refine till_takeAt 38 (i := 6) (v := .int .i64 page) rfl rfl (by kernel_rfl) (by kernel_rfl) (by kernel_rfl) (by kernel_rfl) (by kernel_rfl) (fun _ _ _ h => h) (Or.inl ⟨by rfl, fun w' hw' => by obtain q1 := hw'; go_simp⟩) hS ?_
    simp only [List.setIfInBounds_toArray, List.set_cons_zero, List.set_cons_succ]
    refine till_one (i := 7) (by kernel_rfl) rfl rfl (fun K hK => ?_)
    go_simp
    refine hK _ _ ⟨fun _ => ⟨ka2, ka1⟩, ?_⟩
    clear hK K
    refine till_one (i := 8) (by kernel_rfl) rfl rfl (fun K hK => ?_)
    refine Lib.wp_append_run (w1.drew.alloc (.cells #[.int .i64 page] 3)) _ _ 49 49 rfl v2 (.slice (some ⟨w1.drew.heap.size, 0, none⟩) 1 1) rfl rfl _ _ HX.out.1 ?_
    refine hK _ _ ⟨fun _ => ⟨kb2, kb1⟩, ?_⟩
    clear hK K
    refine till_one (i := 9) (by kernel_rfl) rfl rfl (fun K hK => ?_)
    go_simp
    refine hK _ _ ⟨fun _ => ⟨kb2, kb1⟩, ?_⟩
    clear hK K
    refine till_one (i := 10) (by kernel_rfl) rfl rfl (fun K hK => ?_)
    go_simp
    refine hK _ _ ⟨fun _ => ⟨kb2, kb1⟩, ?_⟩
    clear hK K
    refine till_one (i := 11) (by kernel_rfl) rfl rfl (fun K hK => ?_)
    go_simp
    refine hK _ _ ⟨fun h => absurd h (by omega), till_done (by kernel_rfl) ?_ _⟩
    clear hK K hS k1 k2 ka1 ka2 kb1 kb2 kf2
    obtain ⟨-, h1, h2⟩ := HX.out
    have hX3 := HX3.out
    generalize w2.setCell ⟨cb, 2, none⟩ (.slice A2 (c.old.length + 1) c2) = w3 at *
    have x0 := hX3.cell 0
    have x1 := hX3.cell 1
    have x2 := hX3.cell 2
    simp at x0 x1 x2
    have H3 := Lib.hid (And.intro h1 ((HW.out.trans (goes_drew _ w1)).trans h2))
    clear h1 h2 hX3 HX HX3 HP HW
    obtain ⟨N, hN⟩ : ∃ N, l.length = N := ⟨_, rfl⟩
    rw [hN] at hit x2
    clear hN
    go_wp2_with fail
    refine hit.mono ?_
    rintro e w4 ⟨rfl, hb⟩
    obtain ⟨h1, h2⟩ := H3.out
    have hba := alloc_below (w := w4) (.cells #[.string x.key, .string x.val, .int .i64 x.over, .int .i64 x.size] 126)
    have hbb := hb.trans (hba.mono hb.size)
    have H4 := Lib.hid (And.intro (h1.below hbb) (h2.trans (goes_below hbb)))
    clear h1 h2 hb hba hbb hit
    go_wp2_with fail
    go_ret
    exact ⟨rfl, _, ⟨_, _, _, H4.out.1, rfl⟩, H4.out.2⟩

set_option maxRecDepth 100000 in
set_option maxHeartbeats 2000000 in
/-- The item of a short value: nothing is made for it. -/
theorem chitem_short (key v : ByteArray) (hv : v.size ≤ 60) : Calls Tryz.prog 87 #[.pointer (some ⟨cb, 0, none⟩), .string key, .string v] w fun e w' => e = .returned (.tuple #[iagg ⟨key, v, 0, 0⟩, .int .i64 0]) ∧ Below w.heap.size w w' := by
  have hz := alloc_below (w := w) (.cells #[.string ⟨#[]⟩, .string ⟨#[]⟩, .int .i64 0, .int .i64 0] 126)
  have hN := Has.made w 126 #[.string ⟨#[]⟩, .string ⟨#[]⟩, .int .i64 0, .int .i64 0]
  have g1 : decide ((v.size : Int) ≤ 60) = true := by simp; omega
  have HB := Lib.hid (And.intro hz hN)
  clear hz hN hv
  go_enter Tryz.func87, Tryz.ntmps87
  go_wp2_with fail
  have hP := Has.made w 126 #[.string key, .string v, .int .i64 0, .int .i64 0]
  have hba := alloc_below (w := w) (.cells #[.string key, .string v, .int .i64 0, .int .i64 0] 126)
  clear HB
  generalize w.alloc (.cells #[.string key, .string v, .int .i64 0, .int .i64 0] 126) = W at *
  have e0 := hP.cell 0
  have e1 := hP.cell 1
  have e2 := hP.cell 2
  have e3 := hP.cell 3
  simp at e0 e1 e2 e3
  exact bodyPost_ret (v := .tuple #[iagg ⟨key, v, 0, 0⟩, .int .i64 0]) (by simp [results, Tryz.results87, go_sem, e0, e1, e2, e3]) rfl ⟨rfl, hba⟩
end
end Go.Proofs.YtpoocbkligjgbaaGreatDoor

namespace Go.Proofs.YtpoocbkligjgbaaGreatDoor
open Go.RowKit Go.Sort Go.Lib

def tyL : List Nat := [107, 3, 181, 9, 104, 115, 83]
/-- All blocks of F are of the types of a change, if they are cells. -/
def Typed (F : List Nat) (w : World) : Prop := ∀ x ∈ F, ∀ cs t f, w.heap[x]? = some (.cells cs t f) → t ∈ tyL
theorem rowTy {w : World} {base k n g : Nat} {e : TypeId} {v : Value} {xs : List Value} (h : w.ownsRow base e k v n xs) (hg : v.ownBlock = some g) {cs : Array Value} {t : TypeId} {f : Nat × Nat} (hh : w.heap[g]? = some (.cells cs t f)) : t = e := by
  rcases h.2 with ⟨rfl, _⟩ | ⟨g', cap, cur, rfl, _, hgc, _⟩
  · simp [Value.ownBlock] at hg
  · simp [Value.ownBlock] at hg
    subst hg
    rw [hgc] at hh
    simp at hh
    exact hh.2.1.symm
theorem hasTy {w : World} {g : Nat} {e : TypeId} {c0 : Array Value} (h : Has w g e c0) {cs : Array Value} {t : TypeId} {f : Nat × Nat} (hh : w.heap[g]? = some (.cells cs t f)) : t = e := by
  have h3 : w.heap[g]? = _ := h
  rw [h3] at hh
  simp at hh
  exact hh.2.1.symm
theorem PgIs.types {p pd pf b : Nat} {s : PgS} {F : List Nat} {w : World} (h : PgIs p pd pf b s F w) (hc : s.dev.cap = 0) : Typed F w := by
  obtain ⟨v, FD, FF, hp, hn, hh, hd, hf, _, _, _, _, rfl⟩ := h
  intro x hx cs t f hxx
  simp only [pgOwn, List.mem_append, List.mem_cons, Option.mem_toList] at hx
  rcases hx with (rfl | rfl | hx) | hx | hx
  · rw [hasTy hp hxx]; decide
  · obtain ⟨D, ⟨es, clock, hb, _⟩, _⟩ := hh
    rw [hb] at hxx
    simp at hxx
  · obtain ⟨a, ha, _⟩ := hn
    rw [rowTy ha hx hxx]; decide
  · obtain ⟨pv, sv, ch, hl, h1, h2, rfl, _, _⟩ := hd
    simp only [devBlocks, List.mem_cons, List.mem_append, Option.mem_toList] at hx
    rcases hx with rfl | hx | hx | hx
    · rw [hasTy hl.has hxx]; decide
    · rw [rowTy h1 hx hxx]; decide
    · rw [rowTy h2 hx hxx]; decide
    · have := hl.wide _ hx
      omega
  · obtain ⟨v0, v1, v2, hp, h0, h1, h2, _, _, rfl⟩ := hf
    simp only [List.mem_cons, List.mem_append, Option.mem_toList] at hx
    rcases hx with rfl | (hx | hx) | hx
    · rw [hasTy hp hxx]; decide
    · obtain ⟨a, ha, _⟩ := h0
      rw [rowTy ha hx hxx]; decide
    · obtain ⟨a, ha, _⟩ := h1
      rw [rowTy ha hx hxx]; decide
    · obtain ⟨a, ha, _⟩ := h2
      rw [rowTy ha hx hxx]; decide
theorem ChAt.types {cb p pd pf b : Nat} {c : ChS} {F : List Nat} {w : World} (h : ChAt cb p pd pf b c F w) (hy : Yg c.s) : Typed F w := by
  obtain ⟨v1, v2, F0, h1, rfl⟩ := h
  intro x hx cs t f hxx
  simp only [chF, List.mem_cons, List.mem_append, Option.mem_toList] at hx
  rcases hx with rfl | hx | hx | hx
  · rw [hasTy h1.has hxx]; decide
  · rw [rowTy h1.r1 hx hxx]; decide
  · rw [rowTy h1.r2 hx hxx]; decide
  · exact h1.pg.types hy.cap x hx cs t f hxx
theorem row_typed {F : List Nat} {w w' : World} {base k n : Nat} {e : TypeId} {v : Value} {xs : List Value} (hT : Typed F w) (he : e ∉ tyL) (h : w.ownsRow base e k v n xs) (hk : Kept F w w') : w'.ownsRow base e k v n xs :=
  row_kept h hk fun g hg hF => by
    rcases h.2 with ⟨rfl, _⟩ | ⟨g', cap, cur, rfl, _, hgc, _⟩
    · simp [Value.ownBlock] at hg
    · simp [Value.ownBlock] at hg
      subst hg
      exact he (hT _ hF _ _ _ hgc)
theorem has_typed {F : List Nat} {w w' : World} {g : Nat} {e : TypeId} {cs : Array Value} (hT : Typed F w) (he : e ∉ tyL) (h : Has w g e cs) (hk : Kept F w w') : Has w' g e cs :=
  h.kept hk fun hF => he (hT _ hF _ _ _ h)
end Go.Proofs.YtpoocbkligjgbaaGreatDoor

namespace Go.Proofs.YtpoocbkligjgbaaGreatDoor
open Go.RowKit Go.Sort Go.Lib

/-- The parts P are v, a row of slices. -/
def PtRow (w : World) (v : Value) (P : List (List Itm)) : Prop :=
  ∃ V : List Value, V.length = P.length ∧ w.ownsRow 0 120 1 v P.length V ∧ ∀ i (h : i < P.length), ∃ A c, V[i]? = some (.slice A P[i].length c) ∧ w.ownsRow 0 126 4 (.slice A P[i].length c) P[i].length (ilist P[i])
theorem PtRow.below {w w' : World} {v : Value} {P : List (List Itm)} (h : PtRow w v P) (hb : Below w.heap.size w w') : PtRow w' v P := by
  obtain ⟨V, h1, h2, h3⟩ := h
  refine ⟨V, h1, row_below h2 hb, fun i hi => ?_⟩
  obtain ⟨A, c, h4, h5⟩ := h3 i hi
  exact ⟨A, c, h4, row_below h5 hb⟩
theorem PtRow.typed {F : List Nat} {w w' : World} {v : Value} {P : List (List Itm)} (hT : Typed F w) (h : PtRow w v P) (hk : Kept F w w') : PtRow w' v P := by
  obtain ⟨V, h1, h2, h3⟩ := h
  refine ⟨V, h1, row_typed hT (by decide) h2 hk, fun i hi => ?_⟩
  obtain ⟨A, c, h4, h5⟩ := h3 i hi
  exact ⟨A, c, h4, row_typed hT (by decide) h5 hk⟩
theorem PtRow.at {w : World} {v : Value} {P : List (List Itm)} (h : PtRow w v P) (hp : 0 < P.length) : ∃ g cap, v = .slice (some ⟨g, 0, none⟩) P.length cap ∧ ∀ i (hi : i < P.length), ∃ A c, w.cell? ⟨g, i, none⟩ = some (.slice A P[i].length c) ∧ w.ownsRow 0 126 4 (.slice A P[i].length c) P[i].length (ilist P[i]) := by
  obtain ⟨V, h1, h2, h3⟩ := h
  obtain ⟨A, c, hv, hc⟩ := row_readsO (F := []) h2 (by simp)
  rw [h1] at hv hc
  obtain ⟨b, off, rfl, _, _, hcell⟩ := hc hp
  have hoff : off = 0 := by
    rcases h2.2 with ⟨_, h0⟩ | ⟨g, cap, cur, h0, _⟩
    · omega
    · rw [hv] at h0
      simp at h0
      exact h0.1.2
  subst hoff
  refine ⟨b, c, hv, fun i hi => ?_⟩
  obtain ⟨A, c, h4, h5⟩ := h3 i hi
  exact ⟨A, c, by simpa using hcell i _ h4, h5⟩
theorem PtRow.one {w : World} {g : Nat} {A : Option Addr} {c : Nat} {l : List Itm} (h : Has w g 120 #[.slice A l.length c]) (hr : w.ownsRow 0 126 4 (.slice A l.length c) l.length (ilist l)) : PtRow w (.slice (some ⟨g, 0, none⟩) 1 1) [l] :=
  ⟨[.slice A l.length c], rfl, ⟨rfl, .inr ⟨g, 1, #[.slice A l.length c], rfl, Nat.zero_le _, h, Nat.le_refl _, by unfold maxLen; omega, rfl, rfl⟩⟩, fun i hi => by
    obtain rfl : i = 0 := by simpa using hi
    exact ⟨A, c, rfl, hr⟩⟩

section
variable {w : World}
set_option maxRecDepth 100000 in
set_option maxHeartbeats 2000000 in
/-- Items that go into one page are one part. -/
theorem partsI_any1 (A : Option Addr) (cc : Nat) (l : List Itm) (hok : OKL l) (hz : sz l ≤ 240) (hr : w.ownsRow 0 126 4 (.slice A l.length cc) l.length (ilist l)) :
    Calls Tryz.prog 131 #[.slice A l.length cc, .func (.func 132) #[] #[], .func (.func 133) #[] #[]] w fun e w' => ∃ v, e = .returned v ∧ PtRow w' v [l] ∧ Below w.heap.size w w' := by
  have hft := lffits_any (.slice A l.length cc) l w (row_readsIt hr) (by have := leaf_few hok hz; omega)
  rw [decide_eq_true (show OKL l ∧ sz l ≤ 240 from ⟨hok, hz⟩)] at hft
  have key : ∀ w1, Below w.heap.size w w1 → PtRow (w1.alloc (.cells #[.slice A l.length cc] 120)) (.slice (some ⟨w1.heap.size, 0, none⟩) 1 1) [l] ∧ Below w.heap.size w (w1.alloc (.cells #[.slice A l.length cc] 120)) := fun w1 hb => by
    have hba := alloc_below (w := w1) (.cells #[.slice A l.length cc] 120)
    exact ⟨.one (Has.made _ _ _) (row_below (row_below hr hb) hba), hb.trans (hba.mono hb.size)⟩
  obtain ⟨L, hL⟩ : ∃ L, L = [l] := ⟨_, rfl⟩
  rw [← hL] at key ⊢
  obtain ⟨N, hN⟩ : ∃ N, l.length = N := ⟨_, rfl⟩
  rw [hN] at hft key ⊢
  have HO := Lib.hid key
  clear hok hz hr key hL
  by_cases h2 : N < 2
  · have g1 : decide ((N : Int) < 2) = true := by simp; omega
    clear hN h2 hft
    go_enter Tryz.func131, Tryz.ntmps131
    go_wp2_with fail
    go_ret
    exact ⟨_, rfl, HO.out w (Below.refl _ _)⟩
  · have g1 : decide ((N : Int) < 2) = false := by simp; omega
    clear hN h2
    go_enter Tryz.func131, Tryz.ntmps131
    go_wp2_with fail
    refine hft.mono ?_
    rintro e w1 ⟨rfl, hb⟩
    have HB := Lib.hid hb
    clear hft hb
    go_wp2_with fail
    go_ret
    exact ⟨_, rfl, HO.out w1 HB.out⟩
end

/-- What leaves comes to, part by part. -/
theorem lvL_snoc (c : ChS) (L : List (List Itm)) (q : List Itm) : lvL c (L ++ [q]) = lvStep (lvL c L) q := by simp [lvL]
theorem lvStep_stuck {st : LvS} (h : st.e ≠ 0) (L : List (List Itm)) : L.foldl lvStep st = st := by
  induction L with
  | nil => rfl
  | cons q L ih => show L.foldl lvStep (lvStep st q) = st; rw [show lvStep st q = st by unfold lvStep; rw [if_pos h], ih]
theorem lvL_stuck {c : ChS} {L : List (List Itm)} {j : Nat} (h : (lvL c (L.take j)).e ≠ 0) : lvL c L = lvL c (L.take j) := by
  have e : L = L.take j ++ L.drop j := (List.take_append_drop _ _).symm
  conv => lhs; rw [e]
  unfold lvL
  rw [List.foldl_append]
  exact lvStep_stuck h _
theorem bodyI_small (l : List Itm) : (bodyI l).size ≤ 240 := by
  have e : (bodyI l).data.toList.length = (bodyI l).size := by simp
  rw [← e]
  show (putB l).length ≤ 240
  unfold putB
  split
  · rename_i h; exact h.2
  · simp
structure LvOK (c : ChS) (m : Nat) (st : LvS) : Prop where
  yg : Yg st.c.s
  n : st.c.s.n ≤ c.s.n + m
  made : st.c.made.length ≤ c.made.length + m
  kids : st.kids.length ≤ m
  old : st.c.old = c.old
theorem pgT_yg {c : ChS} (hy : Yg c.s) (k : Int) (t : ByteArray) (laid : Int) : Yg (pgT c k t laid).s ∧ (pgT c k t laid).s.n ≤ c.s.n + 1 ∧ (pgT c k t laid).made.length ≤ c.made.length + 1 ∧ (pgT c k t laid).old = c.old := by
  unfold pgT
  split
  · rename_i h
    refine ⟨hy.made ?_, by show (mkS c.s k 0 t).n ≤ _; rw [mkS_n]; omega, by simp, rfl⟩
    unfold pgE at h
    split at h
    · omega
    · exact h
  · exact ⟨hy, by omega, by omega, rfl⟩
theorem LvOK.step {c : ChS} {m : Nat} {st : LvS} (h : LvOK c m st) (q : List Itm) : LvOK c (m + 1) (lvStep st q) := by
  obtain ⟨k1, k2, k3, k4⟩ := pgT_yg h.yg 2 (bodyI q) (putE q)
  have h2 := h.n
  have h3 := h.made
  have h4 := h.kids
  unfold lvStep
  split
  · exact ⟨h.yg, by omega, by omega, by omega, h.old⟩
  · split
    · exact ⟨h.yg, by show st.c.s.n ≤ _; omega, by show st.c.made.length ≤ _; omega, by show st.kids.length ≤ _; omega, h.old⟩
    · exact ⟨k1, by show (pgT _ _ _ _).s.n ≤ _; omega, by show (pgT _ _ _ _).made.length ≤ _; omega, by simp; omega, k4.trans h.old⟩
theorem lvL_ok {c : ChS} (hy : Yg c.s) : ∀ L : List (List Itm), LvOK c L.length (lvL c L) := by
  have key : ∀ (L : List (List Itm)) (m : Nat) (st : LvS), LvOK c m st → LvOK c (m + L.length) (L.foldl lvStep st) := by
    intro L
    induction L with
    | nil => exact fun m st h => h
    | cons q L ih =>
      intro m st h
      have := ih (m + 1) (lvStep st q) (h.step q)
      rw [show m + (q :: L).length = m + 1 + L.length by simp; omega]
      exact this
  intro L
  have := key L 0 ⟨0, c, []⟩ ⟨hy, by simp, by simp, by simp, rfl⟩
  rwa [Nat.zero_add] at this
theorem lvL_kids {c : ChS} : ∀ {j : Nat} {L : List (List Itm)}, (lvL c (L.take j)).e = 0 → j ≤ L.length → (lvL c (L.take j)).kids.length = j
  | 0, _, _, _ => rfl
  | j + 1, L, h, hj => by
    have ht : L.take (j + 1) = L.take j ++ [L[j]] := List.take_succ_eq_append_getElem (by omega)
    rw [ht, lvL_snoc] at h ⊢
    have h0 : (lvL c (L.take j)).e = 0 := by
      apply Classical.byContradiction
      intro hn
      unfold lvStep at h
      rw [if_pos hn] at h
      exact hn h
    have ih := lvL_kids h0 (by omega)
    unfold lvStep at h ⊢
    rw [if_neg (by rw [h0]; simp)] at h ⊢
    split
    · rename_i h2
      rw [if_pos h2] at h
      exact absurd h h2
    · simp [ih]
end Go.Proofs.YtpoocbkligjgbaaGreatDoor

namespace Go.Proofs.YtpoocbkligjgbaaGreatDoor
open Go.RowKit Go.Sort Go.Lib

section
variable {cb p pd pf b : Nat} {c : ChS} {F G : List Nat} {w w' : World}
theorem ChAt.kept (h : ChAt cb p pd pf b c F w) (hk : Kept G w w') (hd : ∀ x ∈ F, x ∉ G) : ChAt cb p pd pf b c F w' := by
  obtain ⟨v1, v2, F0, hp, rfl⟩ := h
  have hm : ∀ x, x ∈ chF cb v1 v2 F0 → x ∉ G := hd
  exact ⟨v1, v2, F0, ⟨hp.has.kept hk (hm _ (by simp [chF])), row_kept hp.r1 hk (fun g hg => hm _ (by simp [chF, hg])), row_kept hp.r2 hk (fun g hg => hm _ (by simp [chF, hg])), hp.pg.kept hk (fun x hx => hm _ (by simp [chF, hx])), hp.n0, hp.n1, hp.n2, hp.n12⟩, rfl⟩
/-- A row of another type grows beside a change. -/
theorem ChAt.beside {base n k : Nat} {t : TypeId} {v : Value} {xs : List Value} (h : ChAt cb p pd pf b c F w) (hy : Yg c.s) (hr : w.ownsRow base t k v n xs) (ht : t ∉ tyL) (hg : w.grownBy w' v.ownBlock) : ChAt cb p pd pf b c F w' := by
  refine h.kept (G := v.ownBlock.toList) (Kept.of_grown hg (fun k hk => by simp [hk])) fun x hx hm => ?_
  have hT := h.types hy
  rcases hr.2 with ⟨rfl, _⟩ | ⟨g', cap, cur, rfl, _, hgc, _⟩
  · simp [Value.ownBlock] at hm
  · simp [Value.ownBlock] at hm
    subst hm
    exact ht (hT _ hx _ _ _ hgc)
theorem goes_grown {n k : Nat} {t : TypeId} {v : Value} {xs : List Value} {F' : List Nat} {w0 : World} (h : Goes F w0 F' w) (hr : w.ownsRow w0.heap.size t k v n xs) (hg : w.grownBy w' v.ownBlock) : Goes F w0 F' w' := by
  refine ⟨h.1.then_ (G := v.ownBlock.toList) (Kept.of_grown hg (fun k hk => by simp [hk])) fun i hi => ?_, h.2⟩
  rcases hr.2 with ⟨rfl, _⟩ | ⟨g', cap, cur, rfl, hb, _⟩
  · simp [Value.ownBlock] at hi
  · simp [Value.ownBlock] at hi
    subst hi
    exact .inr hb
theorem PtRow.beside {base n k : Nat} {t : TypeId} {v v2 : Value} {xs : List Value} {P : List (List Itm)} (h : PtRow w v P) (hr : w.ownsRow base t k v2 n xs) (h1 : 120 ≠ t) (h2 : 126 ≠ t) (hg : w.grownBy w' v2.ownBlock) : PtRow w' v P := by
  obtain ⟨V, a1, a2, a3⟩ := h
  refine ⟨V, a1, rowO_grown a2 h1 hr hg, fun i hi => ?_⟩
  obtain ⟨A, c, h4, h5⟩ := a3 i hi
  exact ⟨A, c, h4, rowO_grown h5 h2 hr hg⟩
end

section
variable {ops : Array Oper} {rest : List Oper} {o : Oper} {a : Act} {Q : Exit → Act → World → Prop}
/-- append(kids, x) of one child, which was laid just now. -/
theorem append_kid (hgd : o.guard = none) (s x : Operand) (ho : o.op = .call { callee := .builtin .append, args := #[s, x], argTypes := #[167, 167] }) (base : Nat) (wr : World) (d : Value) (l : List BR.Chd) (n : Nat) (hnl : l.length = n) (hs : a.eval s = d) (hrow : wr.ownsRow base 204 2 d n (BR.ilist l))
    (k : BR.Chd) (B : Nat) (hB : B = wr.heap.size) (hx : a.eval x = .slice (some ⟨B, 0, none⟩) 1 1) (hlen : l.length ≤ 1000000) (hbase : base ≤ wr.heap.size)
    (h : ∀ v' w', w'.ownsRow base 204 2 v' (l ++ [k]).length (BR.ilist (l ++ [k])) → (wr.alloc (.cells #[.string k.key, .int .i64 k.page] 204)).grownBy w' d.ownBlock → wpList Tryz.prog ops Q rest (a.put o.dst v') w') :
    wpList Tryz.prog ops Q (o :: rest) a (wr.alloc (.cells #[.string k.key, .int .i64 k.page] 204)) := by
  subst hnl hB
  obtain ⟨i0, hi, hz0, hz1, hz2⟩ := info_parts BR.Tryz.infoChild
  have hra := World.ownsRow.alloc hrow (.cells #[.string k.key, .int .i64 k.page] 204)
  have hn := Has.made wr 204 #[.string k.key, .int .i64 k.page]
  refine wpList_append_own _ hgd s x 167 ho base 204 i0 _ 2 24 Tryz.underlying167 hi hz0 hz1 hz2 rfl (by decide) _ l.length (BR.ilist l) hs hra ⟨wr.heap.size, 0, none⟩ 1 1 [.string k.key, .int .i64 k.page] hx rfl
    (fun j u hu => by rw [Go.WideShapes.add_plain, Nat.zero_add, hn.cell j]; simpa using hu) (by intro u hu; simp at hu; rcases hu with rfl | rfl <;> rfl) (by unfold maxLen; omega) (by omega) (by simp; omega) ?_
  intro v' w' k1 k2 _
  refine h v' w' ?_ k2
  rw [List.length_append, BR.ilist_append]
  exact k1
end

section
variable {cb p pd pf b : Nat} {c : ChS} {F : List Nat} {w : World}

set_option maxRecDepth 100000 in
set_option maxHeartbeats 8000000 in
theorem chleaves_any {A : Option Addr} {cc : Nat} {l : List Itm} {P : List (List Itm)}
    (hpt : Calls Tryz.prog 131 #[.slice A l.length cc, .func (.func 132) #[] #[], .func (.func 133) #[] #[]] w fun e w' => ∃ v, e = .returned v ∧ PtRow w' v P ∧ Below w.heap.size w w')
    (hP : 0 < P.length) (hP2 : P.length ≤ 1000) (hq : ∀ q ∈ P, q.length ≤ 100000) (hq0 : ∀ i (h : i < P.length), 0 < i → 0 < P[i].length)
    (hy : Yg c.s) (hn : c.s.n ≤ 900000) (hm : c.made.length ≤ 10000) (h : ChAt cb p pd pf b c F w) :
    Calls Tryz.prog 88 #[.pointer (some ⟨cb, 0, none⟩), .slice A l.length cc] w fun e w' => (∃ v, e = .returned (.tuple #[v, .int .i64 (lvL c P).e]) ∧ w'.ownsRow w.heap.size 204 2 v (lvK (lvL c P)).length (BR.ilist (lvK (lvL c P)))) ∧ ∃ F', ChAt cb p pd pf b (lvL c P).c F' w' ∧ Goes F w F' w' := by
  have HA := Lib.hid (And.intro hP (And.intro hP2 (And.intro hq (And.intro hq0 (And.intro hy (And.intro hn (And.intro hm h)))))))
  obtain ⟨K, hK⟩ : ∃ K, P.length = K := ⟨_, rfl⟩
  have hK1 : K ≤ 1000 := by omega
  have HK := Lib.hid hK
  clear hP hP2 hq hq0 hy hn hm h hK
  obtain ⟨M, hM⟩ : ∃ M, l.length = M := ⟨_, rfl⟩
  rw [hM] at hpt ⊢
  clear hM
  go_enter Tryz.func88, Tryz.ntmps88
  go_wp2_with fail
  refine hpt.mono ?_
  rintro e w1 ⟨v, rfl, hpr, hb1⟩
  obtain ⟨g, cap, rfl, -⟩ := hpr.at HA.out.1
  have H1 := Lib.hid (And.intro hpr (And.intro hb1 (HA.out.2.2.2.2.2.2.2.below hb1)))
  rw [HK.out]
  clear hpt hpr hb1
  go_wp2_with fail
  go_loopg [6, 16] K (fun G kv iv wr => ∃ j : Nat, iv = .int .i64 j ∧ j + G = K ∧ (lvL c (P.take j)).e = 0 ∧ wr.ownsRow w.heap.size 204 2 kv (lvL c (P.take j)).kids.length (BR.ilist (lvL c (P.take j)).kids) ∧
    PtRow wr (.slice (some ⟨g, 0, none⟩) P.length cap) P ∧ ∃ F', ChAt cb p pd pf b (lvL c (P.take j)).c F' wr ∧ Goes F w F' wr)
  case atStart =>
    exact ⟨0, rfl, by omega, rfl, World.ownsRow_nil _ _ _ _, H1.out.1, F, H1.out.2.2, goes_below H1.out.2.1⟩
  case round =>
    obtain ⟨j, rfl, hjg, he, hkr, hpr, F1, hc1, hg1⟩ := hrel
    by_cases hlt : j < K
    · obtain ⟨-, hP2, hq, hq0, hy, hn, hm, -⟩ := HA.out
      have hjl : j < P.length := by rw [HK.out]; exact hlt
      obtain ⟨g', cap', hv, hat⟩ := hpr.at HA.out.1
      simp only [Value.slice.injEq] at hv
      obtain ⟨hg', -, hcap'⟩ := hv
      simp at hg'
      subst hg' hcap'
      obtain ⟨Aq, cq, hcell, hrow⟩ := hat j hjl
      have htk : P.take (j + 1) = P.take j ++ [P[j]] := List.take_succ_eq_append_getElem hjl
      have hok := lvL_ok hy (P.take j)
      have hstep : lvL c (P.take (j + 1)) = lvStep (lvL c (P.take j)) P[j] := by rw [htk, lvL_snoc]
      have hkl : (lvL c (P.take j)).kids.length = j := lvL_kids he (Nat.le_of_lt hjl)
      have hqj := hq _ (List.getElem_mem hjl)
      have hq0j := hq0 j hjl
      have htl : (P.take j).length = j := by simp; omega
      rw [htl] at hok
      have hfin : (lvL c (P.take (j + 1))).e ≠ 0 → lvL c P = lvL c (P.take (j + 1)) := lvL_stuck
      generalize hst : lvL c (P.take j) = st at *
      generalize hqq : P[j] = q at *
      obtain ⟨N, hN⟩ : ∃ N, q.length = N := ⟨_, rfl⟩
      rw [hN] at hcell
      have hpu := lfput_any (.slice Aq q.length cq) q wr (row_readsIt hrow) (by omega)
      rw [hN] at hpu
      have hT := hc1.types hok.yg
      have g1 : decide ((j : Int) < (K : Int)) = true := by simp; omega
      have hlt0 : j < K := hlt
      have hj0 : (0 : Int) ≤ (j : Int) := by omega
      have hj1 : (j : Int) < (K : Int) := by omega
      have HR := Lib.hid (And.intro hkr (And.intro hpr (And.intro hc1 (And.intro hg1 (And.intro hrow (And.intro hok (And.intro hstep (And.intro hkl (And.intro hq0j (And.intro hfin (And.intro hT (And.intro hjg (And.intro he hN)))))))))))))
      clear hkr hpr hc1 hg1 hrow hok hstep hkl hq0j hfin hT hjg he hN hat hst hqq hq hq0 hy hn hm hP2 htk hqj htl hjl hlt
      go_wp2_with fail
      refine hpu.mono ?_
      rintro e w2 ⟨rfl, hb2⟩
      obtain ⟨hkr, hpr, hc1, hg1, hrow, hok, hstep, hkl, hq0j, hfin, hT, hjg, he, hN⟩ := HR.out
      have hpg := chpage_any 2 (bodyI q) (putE q) (by unfold IsInt; omega) (by have := bodyI_small q; omega) hok.yg (by have := hok.n; have := HA.out.2.2.2.2.2.1; omega) (by have := hok.made; have := HA.out.2.2.2.2.2.2.1; omega) (hc1.below hb2)
      have hT2 : Typed F1 w2 := (hc1.below hb2).types hok.yg
      have HB2 := Lib.hid (And.intro hb2 hT2)
      change Calls Tryz.prog 135 #[.pointer (some ⟨cb, 0, none⟩), .int .i64 2, .string ⟨(putB q).toArray⟩, .int .i64 (putE q)] w2 _ at hpg
      clear hkr hpr hc1 hg1 hrow hok hstep hkl hq0j hfin hT hjg he hN hb2 hT2 hpu
      go_wp2_with fail
      refine hpg.mono ?_
      rintro e w3 ⟨rfl, F3, hc3, hg3⟩
      obtain ⟨hkr, hpr, hc1, hg1, hrow, hok, hstep, hkl, hq0j, hfin, hT, hjg, he, hN⟩ := HR.out
      obtain ⟨hb2, hT2⟩ := HB2.out
      have hkr3 := row_typed hT2 (by decide) (row_below hkr hb2) hg3.1
      have hpr3 := (hpr.below hb2).typed hT2 hg3.1
      have hrow3 := row_typed hT2 (by decide) (row_below hrow hb2) hg3.1
      have hg03 := hg1.trans ((goes_below hb2).trans hg3)
      clear hkr hpr hc1 hg1 hrow hT hb2 hT2 hg3 hpg HB2
      by_cases hE : pgE st.c 2 (bodyI q) (putE q) = 0
      · have e1 : pgI st.c 2 (bodyI q) (putE q) = cand st.c.s := by unfold pgI; rw [if_pos hE]
        have e2 : lvStep st q = ⟨0, pgT st.c 2 (bodyI q) (putE q), st.kids ++ [⟨if st.kids.length = 0 then ⟨#[]⟩ else keyI q, cand st.c.s⟩]⟩ := by unfold lvStep; rw [if_neg (by rw [he]; simp), if_neg (by rw [hE]; simp)]
        rw [e1, hE]
        rw [e2, hkl] at hstep
        obtain ⟨Av, cv, rfl⟩ := row_form hkr3
        have hpg0 : (pgT st.c 2 (bodyI q) (putE q)).s = mkS st.c.s 2 0 (bodyI q) := by unfold pgT; rw [if_pos hE]
        have hy3 : Yg (pgT st.c 2 (bodyI q) (putE q)).s := (pgT_yg hok.yg 2 _ _).1
        have hkn : st.kids.length ≤ 1000000 := by have := hok.kids; omega
        have hws : w.heap.size ≤ w3.heap.size := hg03.1.size
        obtain ⟨y, hyv⟩ : ∃ y, cand st.c.s = y := ⟨_, rfl⟩
        rw [hyv] at hstep ⊢
        obtain ⟨KN, hKN⟩ : ∃ n, st.kids.length = n := ⟨_, rfl⟩
        by_cases hj0' : j = 0
        · have g3 : decide (0 < j) = false := by simp; omega
          rw [if_pos hj0'] at hstep
          have hba := alloc_below (w := w3) (.cells #[.string ⟨#[]⟩, .int .i64 y] 204)
          have hkrW := row_below hkr3 hba
          have H3 := Lib.hid (And.intro hstep (And.intro (hc3.below hba) (And.intro (hg03.trans (goes_below hba)) (And.intro (hpr3.below hba) (And.intro hy3 (And.intro hjg hlt0))))))
          have hwsW : w.heap.size ≤ (w3.alloc (.cells #[.string ⟨#[]⟩, .int .i64 y] 204)).heap.size := Nat.le_trans hws hba.size
          have HKN := Lib.hid hKN
          rw [hKN] at hkrW ⊢
          clear hok hstep hkl hq0j hfin hjg he hN hkr3 hpr3 hrow3 hg03 hc3 e1 e2 hE hpg0 hy3 hyv hba hws hlt0 hKN hj0'
          go_wp2_with (at_builtin; refine append_kid rfl _ _ rfl w.heap.size (w3.alloc (.cells #[.string ⟨#[]⟩, .int .i64 y] 204)) (.slice Av KN cv) st.kids KN HKN.out rfl hkrW ⟨⟨#[]⟩, y⟩ (w3.heap.size + 1) (by simp) rfl hkn hwsW ?_; intro v4 w4 hr4 hg4; have HG4 := Lib.hid (And.intro hr4 hg4); clear hr4 hg4)
          go_roundg (K - (j + 1))
          case measure => have := H3.out.2.2.2.2.2; omega
          case rel =>
            obtain ⟨hstep, hcW, hgW, hprW, hy3, hjg, hlt0⟩ := H3.out
            obtain ⟨hr4, hg4⟩ := HG4.out
            rw [← HKN.out] at hkrW hg4
            have hkrA := World.ownsRow.alloc hkrW (.cells #[.string ⟨#[]⟩, .int .i64 y] 204)
            have hba2 := alloc_below (w := w3.alloc (.cells #[.string ⟨#[]⟩, .int .i64 y] 204)) (.cells #[.string ⟨#[]⟩, .int .i64 y] 204)
            refine ⟨j + 1, by go_num, by omega, by rw [hstep], ?_, (hprW.below hba2).beside hkrA (t := 204) (by decide) (by decide) hg4, F3, ?_, goes_grown (hgW.trans (goes_below hba2)) hkrA hg4⟩
            · rw [hstep]; exact hr4
            · rw [hstep]; exact (hcW.below hba2).beside hy3 hkrA (t := 204) (by decide) hg4
        · have g3 : decide (0 < j) = true := by simp; omega
          rw [if_neg hj0'] at hstep
          have hq1 : 0 < q.length := hq0j (by omega)
          obtain ⟨gq, hgq⟩ : ∃ gq, Aq = some ⟨gq, 0, none⟩ := by
            rcases hrow3.2 with ⟨h0, h1⟩ | ⟨g, cap, cur, h0, _⟩
            · exact absurd h1 (by omega)
            · simp only [Value.slice.injEq] at h0
              exact ⟨g, h0.1⟩
          subst hgq
          obtain ⟨key, hkey⟩ : ∃ key, keyI q = key := ⟨_, rfl⟩
          rw [hkey] at hstep
          have hcellA : ∀ W : World, W.ownsRow 0 126 4 (.slice (some ⟨gq, 0, none⟩) q.length cq) q.length (ilist q) → W.cell? ⟨gq, 0, none⟩ = some (.string key) := fun W hW => by
            obtain ⟨A', c', hv, _, _, _, hc⟩ := row_readsIt hW
            obtain ⟨b', off, hA, _, hit⟩ := hc hq1
            simp only [Value.slice.injEq] at hv
            rw [← hv.1] at hA
            simp at hA
            obtain ⟨rfl, rfl⟩ := hA
            have := (hit 0 hq1).1
            rw [← hkey]
            unfold keyI
            simpa [List.getD, List.getElem?_eq_getElem hq1] using this
          have hba := alloc_below (w := w3) (.cells #[.string key, .int .i64 y] 204)
          have q0 := hcellA _ (row_below hrow3 (alloc_below (w := w3) (.cells #[.string ⟨#[]⟩, .int .i64 y] 204)))
          have hN1 : (0 : Int) < (N : Int) := by omega
          have hkrW := row_below hkr3 hba
          have H3 := Lib.hid (And.intro hstep (And.intro (hc3.below hba) (And.intro (hg03.trans (goes_below hba)) (And.intro (hpr3.below hba) (And.intro hy3 (And.intro hjg hlt0))))))
          have hwsW : w.heap.size ≤ (w3.alloc (.cells #[.string key, .int .i64 y] 204)).heap.size := Nat.le_trans hws hba.size
          have HKN := Lib.hid hKN
          rw [hKN] at hkrW ⊢
          clear hok hstep hkl hq0j hfin hjg he hN hkr3 hpr3 hrow3 hg03 hc3 e1 e2 hE hpg0 hy3 hyv hba hws hlt0 hKN hj0' hq1 hkey hcellA
          go_wp2_with (at_builtin; (refine append_kid rfl _ _ rfl w.heap.size (w3.alloc (.cells #[.string key, .int .i64 y] 204)) (.slice Av KN cv) st.kids KN HKN.out rfl hkrW ⟨key, y⟩ (w3.heap.size + 1) (by simp) rfl hkn hwsW ?_); intro v4 w4 hr4 hg4; have HG4 := Lib.hid (And.intro hr4 hg4); clear hr4 hg4)
          go_roundg (K - (j + 1))
          case measure => have := H3.out.2.2.2.2.2; omega
          case rel =>
            obtain ⟨hstep, hcW, hgW, hprW, hy3, hjg, hlt0⟩ := H3.out
            obtain ⟨hr4, hg4⟩ := HG4.out
            rw [← HKN.out] at hkrW hg4
            have hkrA := World.ownsRow.alloc hkrW (.cells #[.string key, .int .i64 y] 204)
            have hba2 := alloc_below (w := w3.alloc (.cells #[.string key, .int .i64 y] 204)) (.cells #[.string key, .int .i64 y] 204)
            refine ⟨j + 1, by go_num, by omega, by rw [hstep], ?_, (hprW.below hba2).beside hkrA (t := 204) (by decide) (by decide) hg4, F3, ?_, goes_grown (hgW.trans (goes_below hba2)) hkrA hg4⟩
            · rw [hstep]; exact hr4
            · rw [hstep]; exact (hcW.below hba2).beside hy3 hkrA (t := 204) (by decide) hg4
      · have e1 : pgI st.c 2 (bodyI q) (putE q) = 0 := by unfold pgI; rw [if_neg hE]
        have e2 : lvStep st q = { st with e := pgE st.c 2 (bodyI q) (putE q) } := by unfold lvStep; rw [if_neg (by rw [he]; simp), if_pos hE]
        have e3 : pgT st.c 2 (bodyI q) (putE q) = st.c := by unfold pgT; rw [if_neg hE]
        rw [e1]
        rw [e3] at hc3
        rw [e2] at hstep
        obtain ⟨r, hr⟩ : ∃ r, pgE st.c 2 (bodyI q) (putE q) = r := ⟨_, rfl⟩
        rw [hr] at hstep hE ⊢
        have g4 : (r != 0) = true := by simpa using hE
        have hL := hfin (by rw [hstep]; exact hE)
        rw [hstep] at hL
        have H3 := Lib.hid (And.intro hL (And.intro hc3 (And.intro hg03 hE)))
        clear hok hstep hkl hq0j hfin hjg he hN hkr3 hpr3 hrow3 hg03 hc3 e1 e2 e3 hr hE hL
        go_wp2_with fail
        go_ret2
        obtain ⟨hL, hc3, hg03, hE⟩ := H3.out
        rw [hL]
        refine ⟨⟨_, rfl, ?_⟩, F3, hc3, hg03⟩
        unfold lvK
        rw [if_neg hE]
        exact World.ownsRow_nil _ _ _ _
    · obtain rfl : j = K := by omega
      have g1 : decide ((j : Int) < (j : Int)) = false := by simp
      have hall : P.take j = P := List.take_of_length_le (by rw [HK.out]; exact Nat.le_refl _)
      rw [hall] at he hkr hc1
      obtain ⟨Av, cv, rfl⟩ := row_form hkr
      have H3 := Lib.hid (And.intro he (And.intro hkr (And.intro hc1 hg1)))
      obtain ⟨n, hn⟩ : ∃ n, (lvL c P).kids.length = n := ⟨_, rfl⟩
      have HN := Lib.hid hn
      rw [hn]
      clear he hkr hc1 hg1 hpr hall hlt hjg hn
      go_wp2_with fail
      go_ret2
      obtain ⟨he, hkr, hc1, hg1⟩ := H3.out
      refine ⟨⟨.slice Av n cv, by rw [he]; rfl, ?_⟩, F1, hc1, hg1⟩
      unfold lvK
      rw [if_pos he, ← HN.out]
      exact hkr
end
end Go.Proofs.YtpoocbkligjgbaaGreatDoor
