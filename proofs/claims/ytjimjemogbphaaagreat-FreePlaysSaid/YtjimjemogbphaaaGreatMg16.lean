/-
  The statements' book, of lists of what is due: all lists are grown. The statements' book, of lists of what is due: all lists are grown (the walk). The statements' book, of lists of what is due: is each marked?
-/
import Derived.Test.YtjimjemogbphaaaGreatMg15
namespace Go.Proofs.YtjimjemogbphaaaGreat.BD
open Go.RowKit

def upd {α : Type} (f : Nat → α) (i : Nat) (x : α) : Nat → α := fun j => if j = i then x else f j
theorem upd_same {α : Type} (f : Nat → α) (i : Nat) (x : α) : upd f i x i = x := by unfold upd; rw [if_pos rfl]
theorem upd_other {α : Type} (f : Nat → α) (i : Nat) (x : α) (j : Nat) (h : j ≠ i) : upd f i x j = f j := by unfold upd; rw [if_neg h]

/-- Lists that grow: the slice of them says vs, where they stand now is cur, each marked to its length; what vs says is read as it was. -/
structure GSt (w0 : World) (hv : Value) (n : Nat) (vs : Nat → Value) (ln : Nat → Nat) (cur : Nat → Value) (tl : Nat → Nat) (wr : World) : Prop where
  hd : wr.ownsRow 0 39 1 hv n ((List.range n).map vs)
  row : ∀ j, j < n → wr.ownsRow 0 94 3 (cur j) (tl j) (cellsD (marksD j 0 (tl j)))
  apart : ∀ i j, i < n → j < n → i ≠ j → ∀ g, (cur i).ownBlock = some g → (cur j).ownBlock ≠ some g
  apartH : ∀ j, j < n → ∀ g, hv.ownBlock = some g → (cur j).ownBlock ≠ some g
  old : ∀ j, j < n → ∀ b, (vs j).ownBlock = some b → ∀ q u, (cellsD (marksD j 0 (ln j)))[q]? = some u → wr.cell? ⟨b, q, none⟩ = some u
  from_ : ∀ j, j < n → ∀ g, (cur j).ownBlock = some g → (vs j).ownBlock = some g ∨ w0.heap.size ≤ g
  kept : Kept (vblocks n vs) w0 wr

/-- What stands fast of them. -/
structure GFix (w0 : World) (hv : Value) (n : Nat) (vs : Nat → Value) : Prop where
  apart : ∀ i j, i < n → j < n → i ≠ j → ∀ g, (vs i).ownBlock = some g → (vs j).ownBlock ≠ some g
  apartH : ∀ j, j < n → ∀ g, hv.ownBlock = some g → (vs j).ownBlock ≠ some g
  lt : ∀ j, j < n → ∀ g, (vs j).ownBlock = some g → g < w0.heap.size
  ltH : ∀ g, hv.ownBlock = some g → g < w0.heap.size

section
variable {w0 wr w2 : World} {hv : Value} {n : Nat} {vs cur : Nat → Value} {ln tl : Nat → Nat}

theorem GSt.of {c : Nat → List Due} (h : VSt w0 hv n vs c) (hc : ∀ j, j < n → c j = marksD j 0 (ln j)) : GSt w0 hv n vs ln vs ln w0 ∧ GFix w0 hv n vs := by
  have hrow : ∀ j, j < n → w0.ownsRow 0 94 3 (vs j) (ln j) (cellsD (marksD j 0 (ln j))) := fun j hj => by
    have := h.row j hj
    rwa [hc j hj, length_marksD] at this
  refine ⟨⟨h.hd, hrow, h.apart, h.apartH, fun j hj b hb q u hu => ?_, fun j hj g hg => .inl hg, Kept.refl _ _⟩, ⟨h.apart, h.apartH, h.lt, h.ltH⟩⟩
  have h1 := (hrow j hj).cells hb q u hu
  rwa [Go.WideShapes.add_plain, Nat.zero_add] at h1

/-- Other blocks turn. -/
theorem GSt.keep {F : List Nat} (h : GSt w0 hv n vs ln cur tl wr) (f : GFix w0 hv n vs) (hk : Kept F wr w2) (hF : ∀ g ∈ F, w0.heap.size ≤ g ∧ ∀ j, j < n → (cur j).ownBlock ≠ some g) : GSt w0 hv n vs ln cur tl w2 := by
  have hz := h.kept.size
  refine ⟨row_kept h.hd hk (fun g hg hF' => ?_), fun j hj => row_kept (h.row j hj) hk (fun g hg hF' => (hF g hF').2 j hj hg), h.apart, h.apartH, fun j hj b hb q u hu => ?_, h.from_, h.kept.then_ hk (fun k hk => .inr (hF k hk).1)⟩
  · have := f.ltH g hg
    have := (hF g hF').1
    omega
  · have := f.lt j hj b hb
    exact (hk.cell (p := ⟨b, q, none⟩) (by show b < wr.heap.size; omega) (fun hF' => by have := (hF b hF').1; omega)).trans (h.old j hj b hb q u hu)
theorem GSt.below (h : GSt w0 hv n vs ln cur tl wr) (f : GFix w0 hv n vs) (hb : Below wr.heap.size wr w2) : GSt w0 hv n vs ln cur tl w2 := h.keep f (F := []) (Kept.of_below hb) (by simp)

/-- One list grows. -/
theorem GSt.grow {i m : Nat} {v' : Value} (h : GSt w0 hv n vs ln cur tl wr) (f : GFix w0 hv n vs) (hi : i < n) (hln : ln i ≤ tl i) (hg : Grown wr (cur i) v' w2) (hrow : w2.ownsRow 0 94 3 v' (tl i + m) (cellsD (marksD i 0 (tl i + m)))) :
    GSt w0 hv n vs ln (upd cur i v') (upd tl i (tl i + m)) w2 := by
  have hz := h.kept.size
  have hk := hg.1.1
  have hF : ∀ g ∈ (cur i).ownBlock.toList, (cur i).ownBlock = some g := fun g hg => by simpa using hg
  have hv' : ∀ g, v'.ownBlock = some g → (cur i).ownBlock = some g ∨ wr.heap.size ≤ g := fun g hg' => (hg.1.2 g (by simp [hg'])).imp (hF g) id
  have hlt : ∀ j, j < n → ∀ g, (cur j).ownBlock = some g → g < wr.heap.size := fun j hj g hg => ((h.row j hj).lt g hg).2
  have hltH : ∀ g, hv.ownBlock = some g → g < wr.heap.size := fun g hg => (h.hd.lt g hg).2
  refine ⟨row_kept h.hd hk (fun g hg hF' => h.apartH i hi g hg (hF g hF')), fun j hj => ?_, fun a b ha hb hab g hga hgb => ?_, fun j hj g hgh hgj => ?_, fun j hj b hb q u hu => ?_, fun j hj g hgj => ?_, ?_⟩
  · by_cases hji : j = i
    · subst hji
      rw [upd_same, upd_same]
      exact hrow
    · rw [upd_other _ _ _ _ hji, upd_other _ _ _ _ hji]
      exact row_kept (h.row j hj) hk (fun g hg hF' => h.apart j i hj hi hji g hg (hF g hF'))
  · by_cases hai : a = i
    · subst hai
      have hbi : b ≠ a := fun e => hab e.symm
      rw [upd_same] at hga
      rw [upd_other _ _ _ _ hbi] at hgb
      rcases hv' g hga with h1 | h1
      · exact h.apart a b ha hb hab g h1 hgb
      · have := hlt b hb g hgb
        omega
    · rw [upd_other _ _ _ _ hai] at hga
      by_cases hbi : b = i
      · subst hbi
        rw [upd_same] at hgb
        rcases hv' g hgb with h1 | h1
        · exact h.apart a b ha hb hab g hga h1
        · have := hlt a ha g hga
          omega
      · rw [upd_other _ _ _ _ hbi] at hgb
        exact h.apart a b ha hb hab g hga hgb
  · by_cases hji : j = i
    · subst hji
      rw [upd_same] at hgj
      rcases hv' g hgj with h1 | h1
      · exact h.apartH j hj g hgh h1
      · have := hltH g hgh
        omega
    · rw [upd_other _ _ _ _ hji] at hgj
      exact h.apartH j hj g hgh hgj
  · have hbl : b < wr.heap.size := by have := f.lt j hj b hb; omega
    by_cases hbc : (cur i).ownBlock = some b
    · -- the block that grows is the one that is read
      have hji : j = i := by
        rcases Nat.decEq j i with hne | he
        · rcases h.from_ i hi b hbc with h1 | h1
          · exact absurd h1 (f.apart j i hj hi hne b hb)
          · have := f.lt j hj b hb
            omega
        · exact he
      subst hji
      rcases hg.2 with h1 | h1
      · have hvb : v'.ownBlock = some b := h1.trans hbc
        have hu2 : (cellsD (marksD j 0 (tl j + m)))[q]? = some u := by
          have hql := (List.getElem?_eq_some_iff.1 hu).1
          have e : tl j + m = ln j + (tl j + m - ln j) := by omega
          rw [e, ← marksD_append, cellsD_append, List.getElem?_append_left hql]
          exact hu
        have h3 := hrow.cells hvb q u hu2
        rwa [Go.WideShapes.add_plain, Nat.zero_add] at h3
      · exact (h1.cell (p := ⟨b, q, none⟩) hbl).trans (h.old j hj b hb q u hu)
    · exact (hk.cell (p := ⟨b, q, none⟩) hbl (fun hF' => hbc (hF b hF'))).trans (h.old j hj b hb q u hu)
  · by_cases hji : j = i
    · subst hji
      rw [upd_same] at hgj
      rcases hv' g hgj with h1 | h1
      · exact h.from_ j hj g h1
      · exact .inr (by omega)
    · rw [upd_other _ _ _ _ hji] at hgj
      exact h.from_ j hj g hgj
  · exact h.kept.then_ hk (fun g hg => by
      rcases h.from_ i hi g (hF g hg) with h1 | h1
      · exact .inl (mem_vblocks.2 ⟨i, hi, h1⟩)
      · exact .inr h1)
end
end Go.Proofs.YtjimjemogbphaaaGreat.BD

namespace Go.Proofs.YtjimjemogbphaaaGreat.BD
open Go.RowKit

/-- While lists grow: the first i of them, grown, stand in a slice of their own. -/
structure GrI (w0 : World) (hv : Value) (n : Nat) (vs : Nat → Value) (ln : Nat → Nat) (cur : Nat → Value) (tl : Nat → Nat) (ov : Value) (i : Nat) (wr : World) : Prop where
  st : GSt w0 hv n vs ln cur tl wr
  out : wr.ownsRow w0.heap.size 39 1 ov i ((List.range i).map cur)
  apartO : ∀ j, j < n → ∀ g, ov.ownBlock = some g → (cur j).ownBlock ≠ some g
  len : ∀ j, j < n → ln j ≤ tl j

theorem marks_more (i z k : Nat) : cellsD (marksD i 0 z) ++ cellsD (marksD i z k) = cellsD (marksD i 0 (z + k)) := by
  have h := marksD_append i 0 z k
  rw [Nat.zero_add] at h
  rw [← cellsD_append, h]

section
variable {w0 wr w2 : World} {hv ov : Value} {n i : Nat} {vs cur : Nat → Value} {ln tl : Nat → Nat}

theorem GrI.start (h : GSt w0 hv n vs ln vs ln w0) : GrI w0 hv n vs ln vs ln (.slice none 0 0) 0 w0 := ⟨h, World.ownsRow_nil _ _ _ _, fun _ _ g hg => by simp [Value.ownBlock] at hg, fun _ _ => Nat.le_refl _⟩

theorem GrI.below (h : GrI w0 hv n vs ln cur tl ov i wr) (f : GFix w0 hv n vs) (hb : Below wr.heap.size wr w2) : GrI w0 hv n vs ln cur tl ov i w2 :=
  ⟨h.st.below f hb, row_raise (row_kept (F := []) (row_base0 h.out) (Kept.of_below hb) (fun g _ hF => by simp at hF)) (fun g hg => (h.out.lt g hg).1), h.apartO, h.len⟩

theorem GrI.more {k z m : Nat} {l v' : Value} (h : GrI w0 hv n vs ln cur tl ov i wr) (f : GFix w0 hv n vs) (hk : k < n) (hik : i ≤ k) (el : cur k = l) (hz : tl k = z) (hg : Grown wr l v' w2) (hrow : w2.ownsRow 0 94 3 v' (z + m) (cellsD (marksD k 0 z) ++ cellsD (marksD k z m))) :
    GrI w0 hv n vs ln (upd cur k v') (upd tl k (z + m)) ov i w2 := by
  subst el hz
  rw [marks_more] at hrow
  have hF : ∀ g ∈ (cur k).ownBlock.toList, (cur k).ownBlock = some g := fun g hg => by simpa using hg
  refine ⟨h.st.grow f hk (h.len k hk) hg hrow, ?_, fun j hj g hgo hgj => ?_, fun j hj => ?_⟩
  · have e : (List.range i).map (upd cur k v') = (List.range i).map cur := List.map_congr_left (fun j hj => upd_other _ _ _ _ (by have := List.mem_range.1 hj; omega))
    rw [e]
    exact row_raise (row_kept (row_base0 h.out) hg.1.1 (fun g hgo hF' => h.apartO k hk g hgo (hF g hF'))) (fun g hg => (h.out.lt g hg).1)
  · by_cases hjk : j = k
    · subst hjk
      rw [upd_same] at hgj
      rcases hg.1.2 g (by simp [hgj]) with h1 | h1
      · exact h.apartO j hj g hgo (hF g h1)
      · have := (h.out.lt g hgo).2
        omega
    · rw [upd_other _ _ _ _ hjk] at hgj
      exact h.apartO j hj g hgo hgj
  · by_cases hjk : j = k
    · subst hjk
      rw [upd_same]
      have := h.len j hj
      omega
    · rw [upd_other _ _ _ _ hjk]
      exact h.len j hj

theorem GrI.push {o : Obj} {u ov' : Value} (h : GrI w0 hv n vs ln cur tl ov i wr) (f : GFix w0 hv n vs) (hu : cur i = u) (hg : Grown (wr.alloc o) ov ov' w2) (hrow : w2.ownsRow 0 39 1 ov' (i + 1) ((List.range i).map cur ++ [u])) :
    GrI w0 hv n vs ln cur tl ov' (i + 1) w2 := by
  subst hu
  have hal : Below wr.heap.size wr (wr.alloc o) := (Below.refl _ _).alloc (Nat.le_refl _) _
  have hz := hal.size
  have hz0 := h.st.kept.size
  have ha := h.below f hal
  have hF : ∀ g ∈ ov.ownBlock.toList, ov.ownBlock = some g := fun g hg => by simpa using hg
  refine ⟨ha.st.keep f hg.1.1 (fun g hgF => ⟨(h.out.lt g (hF g hgF)).1, fun j hj => h.apartO j hj g (hF g hgF)⟩), row_raise ?_ (fun g hgo => ?_), fun j hj g hgo hgj => ?_, h.len⟩
  · rw [List.range_succ, List.map_append]
    exact hrow
  · rcases hg.1.2 g (by simp [hgo]) with h1 | h1
    · exact (h.out.lt g (hF g h1)).1
    · omega
  · rcases hg.1.2 g (by simp [hgo]) with h1 | h1
    · exact h.apartO j hj g (hF g h1) hgj
    · have := ((h.st.row j hj).lt g hgj).2
      omega

theorem GrI.congr {tl' : Nat → Nat} (h : GrI w0 hv n vs ln cur tl ov i wr) (e : ∀ j, j < n → tl' j = tl j) : GrI w0 hv n vs ln cur tl' ov i wr :=
  ⟨⟨h.st.hd, fun j hj => by rw [e j hj]; exact h.st.row j hj, h.st.apart, h.st.apartH, h.st.old, h.st.from_, h.st.kept⟩, h.out, h.apartO, fun j hj => by rw [e j hj]; exact h.len j hj⟩
end

/-- What growing leaves. -/
def GrowEndI (w : World) (hv : Value) (n : Nat) (vs : Nat → Value) (ln : Nat → Nat) (ov : Value) (w' : World) : Prop :=
  ∃ cur, GrI w hv n vs ln cur (fun j => ln j + 72) ov n w'

/-- What the rounds keep. -/
def GrAt (w : World) (hv : Value) (n : Nat) (vs : Nat → Value) (ln : Nat → Nat) (i k : Nat) (ov lv : Value) (wr : World) : Prop :=
  ∃ (cur : Nat → Value) (tl : Nat → Nat), lv = cur i ∧ GrI w hv n vs ln cur tl ov i wr ∧ (∀ j, j < i → tl j = ln j + 72) ∧ tl i = ln i + k ∧ (∀ j, i < j → tl j = ln j) ∧ ∀ j, i < j → cur j = vs j
section
variable {w wr w2 : World} {hv ov lv : Value} {n i k : Nat} {vs : Nat → Value} {ln : Nat → Nat}
theorem GrAt.below (h : GrAt w hv n vs ln i k ov lv wr) (f : GFix w hv n vs) (hb : Below wr.heap.size wr w2) : GrAt w hv n vs ln i k ov lv w2 := by
  obtain ⟨cur, tl, h1, h2, h3⟩ := h
  exact ⟨cur, tl, h1, h2.below f hb, h3⟩
theorem GrAt.row (h : GrAt w hv n vs ln i k ov lv wr) (hi : i < n) : wr.ownsRow 0 94 3 lv (ln i + k) (cellsD (marksD i 0 (ln i + k))) := by
  obtain ⟨cur, tl, rfl, h2, h3, h4, h5⟩ := h
  have := h2.st.row i hi
  rwa [h4] at this
theorem GrAt.more {z m : Nat} {v' : Value} (h : GrAt w hv n vs ln i k ov lv wr) (f : GFix w hv n vs) (hi : i < n) (hz : ln i + k = z) (hg : Grown wr lv v' w2) (hrow : w2.ownsRow 0 94 3 v' (z + m) (cellsD (marksD i 0 z) ++ cellsD (marksD i z m))) :
    GrAt w hv n vs ln i (k + m) ov v' w2 := by
  obtain ⟨cur, tl, h1, h2, h3, h4, h5, h6⟩ := h
  refine ⟨upd cur i v', upd tl i (z + m), (upd_same _ _ _).symm, h2.more f hi (Nat.le_refl _) h1.symm (h4.trans hz) hg hrow, fun j hj => ?_, ?_, fun j hj => ?_, fun j hj => ?_⟩
  · rw [upd_other _ _ _ _ (by omega)]
    exact h3 j hj
  · rw [upd_same]
    omega
  · rw [upd_other _ _ _ _ (by omega)]
    exact h5 j hj
  · rw [upd_other _ _ _ _ (by omega)]
    exact h6 j hj
theorem GrAt.out (h : GrAt w hv n vs ln i k ov lv wr) : ∃ news, wr.ownsRow 0 39 1 ov i news ∧ ∀ (o : Obj) (ov' : Value) (w2 : World), GFix w hv n vs → k = 72 → Grown (wr.alloc o) ov ov' w2 → w2.ownsRow 0 39 1 ov' (i + 1) (news ++ [lv]) → ∃ lv', GrAt w hv n vs ln (i + 1) 0 ov' lv' w2 ∧ (i + 1 < n → lv' = vs (i + 1)) := by
  obtain ⟨cur, tl, rfl, h2, h3, h4, h5, h6⟩ := h
  refine ⟨_, row_base0 h2.out, fun o ov' w2 f hk hg hrow => ⟨cur (i + 1), ⟨cur, tl, rfl, h2.push f rfl hg hrow, fun j hj => ?_, h5 _ (by omega), fun j hj => h5 j (by omega), fun j hj => h6 j (by omega)⟩, fun _ => h6 _ (by omega)⟩⟩
  rcases Nat.lt_or_ge j i with h | h
  · exact h3 j h
  · obtain rfl : j = i := by omega
    omega
theorem GrAt.kept (h : GrAt w hv n vs ln i k ov lv wr) : Kept (vblocks n vs) w wr := by
  obtain ⟨cur, tl, h1, h2, _⟩ := h
  exact h2.st.kept
theorem GrAt.hd (h : GrAt w hv n vs ln i k ov lv wr) : wr.ownsRow 0 39 1 hv n ((List.range n).map vs) := by
  obtain ⟨cur, tl, h1, h2, _⟩ := h
  exact h2.st.hd
theorem GrAt.end_ (h : GrAt w hv n vs ln n k ov lv wr) : GrowEndI w hv n vs ln ov wr := by
  obtain ⟨cur, tl, h1, h2, h3, _⟩ := h
  exact ⟨cur, h2.congr (fun j hj => (h3 j hj).symm)⟩
theorem GrAt.start (h : GSt w hv n vs ln vs ln w) : GrAt w hv n vs ln 0 0 (.slice none 0 0) (vs 0) w := ⟨vs, ln, rfl, GrI.start h, fun j hj => absurd hj (by omega), rfl, fun _ _ => rfl, fun _ _ => rfl⟩
end

set_option maxRecDepth 100000 in
set_option maxHeartbeats 4000000 in
theorem growDues_any {w : World} {p : Nat} {cs : Array Value} {hv : Value} {n : Nat} {vs : Nat → Value} {ln : Nat → Nat} (hp : Has w p 61 cs) (h2 : cs[14]? = some hv) (hG : GSt w hv n vs ln vs ln w) (hF : GFix w hv n vs) (hpn : ∀ j, j < n → (vs j).ownBlock ≠ some p) (hn : n ≤ 250) (hx : ∀ j, j < n → ln j ≤ 1000000) :
    Calls Tryz.prog 81 #[.pointer (some ⟨p, 0, none⟩)] w fun e w' => ∃ ov, e = .returned ov ∧ GrowEndI w hv n vs ln ov w' := by
  obtain ⟨A1, c1, rfl⟩ := row_form hG.hd
  have hpf : p ∉ vblocks n vs := fun h => by obtain ⟨j, hj, hg⟩ := mem_vblocks.1 h; exact hpn j hj hg
  obtain ⟨i0, hi0, hz0, hz1, hz2⟩ := info_parts Tryz.infoDue
  obtain ⟨i1, hj0, hy0, hy1, hy2⟩ := info_parts Tryz.infoInts
  have HI := Lib.hid (And.intro hi0 (And.intro hz0 (And.intro hz1 hz2)))
  have HJ := Lib.hid (And.intro hj0 (And.intro hy0 (And.intro hy1 hy2)))
  have HP := Lib.hid (And.intro hp (And.intro hG (And.intro hF (And.intro hpf (And.intro hx h2)))))
  clear hp h2 hG hF hpn hx hpf hi0 hz0 hz1 hz2 hj0 hy0 hy1 hy2
  go_enter Tryz.func81, Tryz.ntmps81
  go_wp2_with fail
  go_loopg [3, 4] n (fun g ov iv wr => ∃ (i : Nat) (lv : Value), iv = .int .i64 i ∧ i + g = n ∧ GrAt w (.slice A1 n c1) n vs ln i 0 ov lv wr ∧ (i < n → lv = vs i))
  case atStart => exact ⟨0, _, rfl, by omega, GrAt.start HP.out.2.1, fun _ => rfl⟩
  case round =>
    obtain ⟨i, lv, rfl, hig, hG, hlv⟩ := hrel
    obtain ⟨hp0, _, hF, hpf, hx, h2⟩ := HP.out
    have hp := hp0.kept hG.kept hpf
    have q1 : wr.cell? ⟨p, 14, none⟩ = some (.slice A1 n c1) := (hp.cell 14).trans h2
    by_cases hlt : i < n
    · have hlv := hlv hlt
      obtain ⟨g1, c1', e1, hle1, _⟩ := row_some hG.hd (by omega)
      cases e1
      have hri := hG.row hlt
      have hxi := hx i hlt
      obtain ⟨m, hm⟩ : ∃ m, ln i = m := ⟨_, rfl⟩
      rw [hm] at hri hxi
      obtain ⟨A3, c3, e3⟩ := row_form hri
      have q2 : wr.cell? ⟨g1, i, none⟩ = some (.slice A3 m c3) := by
        rw [hG.hd.cellAt i (by omega)]
        simp [hlt, ← hlv, e3]
      have HB := Lib.hid (And.intro hG (And.intro hm e3))
      have HX := Lib.hid hxi
      have i0 : (0 : Int) ≤ i := by omega
      have i1 : (i : Int) < n := by omega
      clear hp0 hF hpf hx h2 hG hp hri hm e3 hxi hlv
      go_wp2_with fail
      go_loopg [5, 6] 12 (fun g lv' kv ws => ∃ k : Nat, kv = .int .i64 k ∧ k + g = 12 ∧ GrAt w (.slice (some ⟨g1, 0, none⟩) n c1) n vs ln i k u3 lv' ws)
      case atStart => exact ⟨0, rfl, by omega, by
        have := HB.out.1
        rwa [HB.out.2.2] at this⟩
      case round =>
        obtain ⟨k, rfl, hkg, hG⟩ := hrel
        obtain ⟨hG0, hm, _⟩ := HB.out
        have hri := hG.row hlt
        obtain ⟨z, hz⟩ : ∃ z, m + k = z := ⟨_, rfl⟩
        rw [hm, hz] at hri
        obtain ⟨A5, c5, rfl⟩ := row_form hri
        have hzx : z ≤ 1000012 := by have := HX.out; omega
        by_cases hltk : k < 12
        · have hmk := markDues_any i z 1 wr (by omega) (by omega) (by omega)
          have HR := Lib.hid (And.intro hG (And.intro hri (And.intro hm hz)))
          have HZ := Lib.hid hzx
          have b0 : (k : Int) < 12 := by omega
          clear hG hri hm hz hzx q1 q2 hG0
          go_wp2_with fail
          refine hmk.mono ?_
          rintro e w1 ⟨mv, rfl, hmr, hb1⟩
          obtain ⟨hG, hri, hm, hz⟩ := HR.out
          obtain ⟨hi0, hz0, hz1, hz2⟩ := HI.out
          have hzx := HZ.out
          have hG1 := hG.below HP.out.2.2.1 hb1
          have hri1 := hG1.row hlt
          rw [hm, hz] at hri1
          have hmr0 := row_base0 hmr
          have HS := Lib.hid (And.intro hG1 (And.intro hm hz))
          have hone : ∀ y ∈ cellsD (marksD i z 1), y.oneCell' = true := cellsD_one _
          clear hG hri hm hz hG1 hmr hb1 hmk
          go_wp2_with (at_builtin; refine wpList_append_row rfl _ _ 39 94 _ (.agg #[.int .i64 0, .int .i64 0, .int .i64 0]) 3 24 Tryz.underlying39 hi0 hz0 hz1 hz2 rfl (by decide) rfl _ (.slice A5 z c5) z _ rfl hri1 mv 1 _ rfl hmr0 hone (by omega) (by unfold maxLen; omega) (by omega) ?_; intro v' w2 hown2 hgn2)
          go_roundg (12 - (k + 1))
          case measure => omega
          case rel => exact ⟨k + 1, by go_num, by omega, HS.out.1.more HP.out.2.2.1 hlt (by rw [HS.out.2.1, HS.out.2.2]) hgn2 hown2⟩
        · obtain rfl : k = 12 := by omega
          have hmk := markDues_any i z 60 wr (by omega) (by omega) (by omega)
          have HR := Lib.hid (And.intro hG (And.intro hri (And.intro hm hz)))
          have HZ := Lib.hid hzx
          clear hG hri hm hz hzx q1 q2 hG0
          go_wp2_with fail
          refine hmk.mono ?_
          rintro e w1 ⟨mv, rfl, hmr, hb1⟩
          obtain ⟨hG, hri, hm, hz⟩ := HR.out
          obtain ⟨hi0, hz0, hz1, hz2⟩ := HI.out
          have hzx := HZ.out
          have hG1 := hG.below HP.out.2.2.1 hb1
          have hri1 := hG1.row hlt
          rw [hm, hz] at hri1
          have hmr0 := row_base0 hmr
          have HS := Lib.hid (And.intro hG1 (And.intro hm hz))
          have hone : ∀ y ∈ cellsD (marksD i z 60), y.oneCell' = true := cellsD_one _
          clear hG hri hm hz hG1 hmr hb1 hmk
          go_wp2_with (at_builtin; first
            | (refine wpList_append_row rfl _ _ 39 94 _ (.agg #[.int .i64 0, .int .i64 0, .int .i64 0]) 3 24 Tryz.underlying39 hi0 hz0 hz1 hz2 rfl (by decide) rfl _ (.slice A5 z c5) z _ rfl hri1 mv 60 _ rfl hmr0 hone (by omega) (by unfold maxLen; omega) (by omega) ?_; intro v' w2 hown2 hgn2; obtain ⟨A6, c6, rfl⟩ := row_form hown2; obtain ⟨news, hout, hpush⟩ := (HS.out.1.more HP.out.2.2.1 hlt (by rw [HS.out.2.1, HS.out.2.2]) hgn2 hown2).out; have hra := World.ownsRow.alloc hout (.cells #[.slice A6 (z + 60) c6] 39); have HT := Lib.hid hpush; clear hown2 hgn2 hout hpush hri1 hmr0 hone; obtain ⟨hj0, hy0, hy1, hy2⟩ := HJ.out)
            | (refine wpList_append_keeps rfl _ _ 56 39 _ (.slice none 0 0) 1 24 Tryz.underlying56 hj0 hy0 hy1 hy2 rfl (by decide) rfl _ u3 i _ rfl hra ⟨w2.heap.size, 0, none⟩ 1 1 rfl [.slice A6 (z + 60) c6] rfl (cell_one_new _ _ _) (by intro u hu; simp at hu; subst hu; rfl) (by omega) (by unfold maxLen; omega) (by omega) ?_; intro ov' w3 hown3 hgn3))
          obtain ⟨lv', hG', hlv'⟩ := HT.out _ ov' _ HP.out.2.2.1 trivial hgn3 hown3
          go_roundg (n - (i + 1))
          case measure => omega
          case rel => exact ⟨i + 1, lv', by go_num, by omega, hG', hlv'⟩
    · obtain rfl : i = n := by omega
      have HQ := Lib.hid hG
      clear hlv hp0 hF hpf hx h2 hp hG
      go_wp2_with fail
      go_ret
      exact ⟨_, rfl, HQ.out.end_⟩
end Go.Proofs.YtjimjemogbphaaaGreat.BD

namespace Go.Proofs.YtjimjemogbphaaaGreat.BD
open Go.RowKit

set_option maxRecDepth 100000 in
set_option maxHeartbeats 2000000 in
theorem markedDues_any {w : World} {ov : Value} {n : Nat} {us : Nat → Value} {tl : Nat → Nat} (ho : ReadsL w ov n ((List.range n).map us)) (hr : ∀ j, j < n → ReadsL w (us j) (tl j) (cellsD (marksD j 0 (tl j)))) (hn : n ≤ 250) (hx : ∀ j, j < n → tl j ≤ 1000000) :
    Calls Tryz.prog 92 #[ov] w fun e w' => e = .returned (.bool true) ∧ Below w.heap.size w w' := by
  obtain ⟨A1, c1, rfl, ho⟩ := ho
  have HP := Lib.hid (And.intro ho (And.intro hr hx))
  clear ho hr hx
  go_enter Tryz.func92, Tryz.ntmps92
  go_wp2_with fail
  go_loopg [3] n (fun g i wr => ∃ k : Nat, i = .int .i64 k ∧ k + g = n ∧ Below w.heap.size w wr)
  case atStart => exact ⟨0, rfl, by omega, Below.refl _ _⟩
  case round =>
    obtain ⟨k, rfl, hkg, hbw⟩ := hrel
    obtain ⟨ho, hr, hx⟩ := HP.out
    by_cases hlt : k < n
    · obtain ⟨g1, rfl, hg1, hoc⟩ := ho (by omega)
      have hrk := (hr k hlt).below hbw
      have hxk := hx k hlt
      obtain ⟨A3, c3, e3, h3⟩ := hrk
      have q2 : wr.cell? ⟨g1, k, none⟩ = some (.slice A3 (tl k) c3) := by
        refine (hbw.cell (p := ⟨g1, k, none⟩) hg1).trans (hoc k _ ?_)
        simp [hlt, e3]
      have hrk : ReadsL wr (.slice A3 (tl k) c3) (tl k) (cellsD (marksD k 0 (tl k))) := ⟨A3, c3, rfl, h3⟩
      clear e3 h3
      have hlg : g1 < wr.heap.size := Nat.lt_of_lt_of_le hg1 hbw.size
      generalize tl k = m at *
      have hmk := markDues_any k 0 m wr.drew (by omega) (by omega) (by omega)
      have hS : wr.drew.cell? ⟨g1, k, none⟩ = some (.slice A3 m c3) := q2
      have HB := Lib.hid (And.intro hbw (And.intro (show ReadsL wr.drew (.slice A3 m c3) m (cellsD (marksD k 0 m)) from hrk.kept (F := []) (Kept.refl _ _).drew (fun g _ hF => by simp at hF)) hxk))
      have HM := Lib.hid hmk
      have k0 : (0 : Int) ≤ k := by omega
      have k1 : (k : Int) < n := by omega
      have hm1 : (m : Int) ≤ 1000000 := by omega
      clear hr hx q2 hbw hmk hrk hxk hg1 hoc ho
      go_wp2_with fail
      refine wp_region_tills (fun w' => w'.cell? ⟨g1, k, none⟩ = some (.slice A3 m c3)) 11 (by kernel_rfl) ?_
      refine till_takeAt 10 (i := 0) (v := .slice (some ⟨g1, 0, none⟩) n c1) rfl rfl (by kernel_rfl) (by kernel_rfl) (by kernel_rfl) (by kernel_rfl) (by kernel_rfl) (fun _ _ _ h => h) (Or.inl ⟨by rfl, fun w' hw' => by obtain q1 := hw'; go_simp⟩) hS ?_
      simp only [List.setIfInBounds_toArray, List.set_cons_zero, List.set_cons_succ]
      refine till_takeAt 11 (i := 1) (v := .int .i64 k) rfl rfl (by kernel_rfl) (by kernel_rfl) (by kernel_rfl) (by kernel_rfl) (by kernel_rfl) (fun _ _ _ h => h) (Or.inl ⟨by rfl, fun w' hw' => by obtain q1 := hw'; go_simp⟩) hS ?_
      simp only [List.setIfInBounds_toArray, List.set_cons_zero, List.set_cons_succ]
      refine till_takeAt 12 (i := 2) (v := .pointer (some ⟨g1, k, none⟩)) rfl rfl (by kernel_rfl) (by kernel_rfl) (by kernel_rfl) (by kernel_rfl) (by kernel_rfl) (fun _ _ _ h => h) (Or.inl ⟨by rfl, fun w' hw' => by obtain q1 := hw'; go_simp⟩) hS ?_
      simp only [List.setIfInBounds_toArray, List.set_cons_zero, List.set_cons_succ]
      refine till_takeAt 13 (i := 3) (v := .slice A3 m c3) rfl rfl (by kernel_rfl) (by kernel_rfl) (by kernel_rfl) (by kernel_rfl) (by kernel_rfl) (fun _ _ _ h => h) (Or.inl ⟨by rfl, fun w' hw' => by obtain q1 := hw'; go_simp⟩) hS ?_
      simp only [List.setIfInBounds_toArray, List.set_cons_zero, List.set_cons_succ]
      refine till_takeAt 14 (i := 4) (v := .int .i64 k) rfl rfl (by kernel_rfl) (by kernel_rfl) (by kernel_rfl) (by kernel_rfl) (by kernel_rfl) (fun _ _ _ h => h) (Or.inl ⟨by rfl, fun w' hw' => by obtain q1 := hw'; go_simp⟩) hS ?_
      simp only [List.setIfInBounds_toArray, List.set_cons_zero, List.set_cons_succ]
      refine till_takeAt 15 (i := 5) (v := .slice (some ⟨g1, 0, none⟩) n c1) rfl rfl (by kernel_rfl) (by kernel_rfl) (by kernel_rfl) (by kernel_rfl) (by kernel_rfl) (fun _ _ _ h => h) (Or.inl ⟨by rfl, fun w' hw' => by obtain q1 := hw'; go_simp⟩) hS ?_
      simp only [List.setIfInBounds_toArray, List.set_cons_zero, List.set_cons_succ]
      refine till_takeAt 16 (i := 6) (v := .int .i64 k) rfl rfl (by kernel_rfl) (by kernel_rfl) (by kernel_rfl) (by kernel_rfl) (by kernel_rfl) (fun _ _ _ h => h) (Or.inl ⟨by rfl, fun w' hw' => by obtain q1 := hw'; go_simp⟩) hS ?_
      simp only [List.setIfInBounds_toArray, List.set_cons_zero, List.set_cons_succ]
      refine till_takeAt 17 (i := 7) (v := .pointer (some ⟨g1, k, none⟩)) rfl rfl (by kernel_rfl) (by kernel_rfl) (by kernel_rfl) (by kernel_rfl) (by kernel_rfl) (fun _ _ _ h => h) (Or.inl ⟨by rfl, fun w' hw' => by obtain q1 := hw'; go_simp⟩) hS ?_
      simp only [List.setIfInBounds_toArray, List.set_cons_zero, List.set_cons_succ]
      refine till_takeAt 18 (i := 8) (v := .slice A3 m c3) rfl rfl (by kernel_rfl) (by kernel_rfl) (by kernel_rfl) (by kernel_rfl) (by kernel_rfl) (fun _ _ _ h => h) (Or.inl ⟨by rfl, fun w' hw' => by obtain q1 := hw'; go_simp⟩) hS ?_
      simp only [List.setIfInBounds_toArray, List.set_cons_zero, List.set_cons_succ]
      refine till_takeAt 19 (i := 9) (v := .int .i64 m) rfl rfl (by kernel_rfl) (by kernel_rfl) (by kernel_rfl) (by kernel_rfl) (by kernel_rfl) (fun _ _ _ h => h) (Or.inl ⟨by rfl, fun w' hw' => by obtain q1 := hw'; go_simp⟩) hS ?_
      simp only [List.setIfInBounds_toArray, List.set_cons_zero, List.set_cons_succ]
      refine till_one (i := 10) (by kernel_rfl) rfl rfl (fun K hK => ?_)
      go_simp
      refine HM.out.mono ?_
      rintro e w1 ⟨mv, rfl, hmr, hb1⟩
      refine hK _ _ ⟨fun _ => (hb1.cell (p := ⟨g1, k, none⟩) hlg).trans hS, ?_⟩
      clear hK K hS hlg
      obtain ⟨hbw, hrk, hxk⟩ := HB.out
      have hb1' : Below wr.drew.heap.size wr.drew w1 := hb1
      have hrk1 := hrk.below hb1'
      have hsm := sameDues_any _ _ m (marksD k 0 m) w1 hrk1 (ReadsL.of hmr) (length_marksD _ _ _) hxk
      have HB1 := Lib.hid (show Below w.heap.size w w1 from hbw.trans (Below.mono ⟨hb1.os, hb1.tape, hb1.output, hb1.size, hb1.block⟩ hbw.size))
      clear hbw hrk hxk hb1 hb1' hrk1 hmr
      refine till_one (i := 11) (by kernel_rfl) rfl rfl (fun K hK => ?_)
      go_simp
      refine hsm.mono ?_
      rintro e w2 ⟨rfl, hb2⟩
      refine hK _ _ ⟨fun h => absurd h (by omega), ?_⟩
      clear hK K
      have HB2 := Lib.hid (HB1.out.trans (hb2.mono HB1.out.size))
      clear hsm hb2
      refine till_one (i := 12) (by kernel_rfl) rfl rfl (fun K hK => ?_)
      go_simp
      refine hK _ _ ⟨fun h => absurd h (by omega), till_done (by kernel_rfl) ?_ _⟩
      clear hK K
      go_wp2
      go_roundg (n - (k + 1))
      case measure => omega
      case rel => exact ⟨k + 1, by go_num, by omega, HB2.out⟩
    · obtain rfl : k = n := by omega
      have HB := Lib.hid hbw
      clear ho hr hx hbw
      go_wp2_with fail
      go_ret
      exact ⟨rfl, HB.out⟩
end Go.Proofs.YtjimjemogbphaaaGreat.BD
