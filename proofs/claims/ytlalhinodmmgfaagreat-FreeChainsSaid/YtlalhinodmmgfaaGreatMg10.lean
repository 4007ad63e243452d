/-
  Rows of the call's own, side by side; append of one element, of several. Words for rows of numbers. The statements' book, of lists of numbers: marks, copies; lists are kept, looked at, marked, grown.
-/
import Derived.Test.YtlalhinodmmgfaaGreatMg8
import Derived.Test.YtlalhinodmmgfaaGreatMg9
namespace Go.Proofs.YtlalhinodmmgfaaGreat
open Go.RowKit

/-- A row: its element's type, how many cells an element has, the slice that stands for it, how many elements, its cells. -/
structure RowS where
  e : TypeId
  k : Nat
  v : Value
  n : Nat
  xs : List Value

def RowS.on (r : RowS) (w : World) : Prop := w.ownsRow 0 r.e r.k r.v r.n r.xs
def RowS.foot (r : RowS) : List Nat := r.v.ownBlock.toList
def foot (R : List RowS) : List Nat := R.flatMap RowS.foot

/-- Rows that share no block. -/
structure Rows (w : World) (R : List RowS) : Prop where
  all : ∀ r ∈ R, r.on w
  apart : (foot R).Nodup

section
variable {w w' : World} {R Q : List RowS} {r : RowS}
theorem mem_foot {g : Nat} : g ∈ foot R ↔ ∃ r ∈ R, r.v.ownBlock = some g := by
  unfold foot RowS.foot
  simp
theorem foot_cons : foot (r :: R) = r.foot ++ foot R := rfl
theorem foot_append : foot (R ++ Q) = foot R ++ foot Q := by unfold foot; rw [List.flatMap_append]
theorem RowS.on.lt (h : r.on w) : ∀ k ∈ r.foot, k < w.heap.size := fun k hk => (World.ownsRow.lt h k (by simpa [RowS.foot] using hk)).2
theorem Rows.lt (h : Rows w R) : ∀ k ∈ foot R, k < w.heap.size := fun k hk => by
  obtain ⟨r, hr, hg⟩ := mem_foot.1 hk
  exact (World.ownsRow.lt (h.all r hr) k hg).2
theorem RowS.on.kept {F : List Nat} (h : r.on w) (hk : Kept F w w') (hd : ∀ g ∈ r.foot, g ∉ F) : r.on w' := row_kept h hk (fun g hg => hd g (by simp [RowS.foot, hg]))
theorem Rows.kept {F : List Nat} (h : Rows w R) (hk : Kept F w w') (hd : ∀ g ∈ foot R, g ∉ F) : Rows w' R :=
  ⟨fun r hr => (h.all r hr).kept hk (fun g hg => hd g (mem_foot.2 ⟨r, hr, by simpa [RowS.foot] using hg⟩)), h.apart⟩
theorem Rows.below (h : Rows w R) (hb : Below w.heap.size w w') : Rows w' R := h.kept (F := []) (Kept.of_below hb) (by simp)
theorem Rows.perm (h : Rows w R) (hp : R.Perm Q) : Rows w Q := ⟨fun r hr => h.all r (hp.mem_iff.2 hr), (hp.flatMap_right _).nodup_iff.1 h.apart⟩
theorem Rows.left (h : Rows w (R ++ Q)) : Rows w R := ⟨fun r hr => h.all r (by simp [hr]), by have := h.apart; rw [foot_append] at this; exact (List.nodup_append.1 this).1⟩
theorem Rows.right (h : Rows w (R ++ Q)) : Rows w Q := ⟨fun r hr => h.all r (by simp [hr]), by have := h.apart; rw [foot_append] at this; exact (List.nodup_append.1 this).2.1⟩
theorem Rows.join (h : Rows w R) (k : Rows w Q) (hd : ∀ g ∈ foot R, g ∉ foot Q) : Rows w (R ++ Q) :=
  ⟨fun r hr => (List.mem_append.1 hr).elim (h.all r) (k.all r), by
    rw [foot_append]
    exact List.nodup_append.2 ⟨h.apart, k.apart, fun a ha b hb e => hd a ha (e ▸ hb)⟩⟩
theorem Rows.disjoint (h : Rows w (R ++ Q)) : ∀ g ∈ foot R, g ∉ foot Q := fun g hg hq => by
  have := h.apart
  rw [foot_append] at this
  exact (List.nodup_append.1 this).2.2 g hg g hq rfl
theorem rows_one (h : r.on w) : Rows w [r] := ⟨by simpa using h, by
  unfold foot RowS.foot
  simp only [List.flatMap_cons, List.flatMap_nil, List.append_nil]
  cases r.v.ownBlock <;> simp⟩
/-- One row turns, in its block or in a new one; the others stay. -/
theorem Rows.turn {r' : RowS} (h : Rows w (r :: R)) (hg : Goes r.foot w r'.foot w') (h' : r'.on w') : Rows w' (r' :: R) := by
  have hd : ∀ g ∈ foot R, g ∉ r.foot := fun g hg hr => by
    have h1 := h.apart
    rw [foot_cons] at h1
    exact (List.nodup_append.1 h1).2.2 g hr g hg rfl
  have hR : Rows w R := ⟨fun x hx => h.all x (by simp [hx]), by have := h.apart; rw [foot_cons] at this; exact (List.nodup_append.1 this).2.1⟩
  have h2 := (rows_one h').join (hR.kept hg.1 hd) (fun g hgr hgR => by
    have hgr' : g ∈ r'.foot := by
      unfold foot at hgr
      simpa using hgr
    rcases hg.2 g hgr' with h3 | h3
    · exact hd g hgR h3
    · have := hR.lt g hgR; omega)
  simpa using h2
end

theorem row_base0 {w : World} {base : Nat} {e : TypeId} {k : Nat} {v : Value} {n : Nat} {xs : List Value} (h : w.ownsRow base e k v n xs) : w.ownsRow 0 e k v n xs := by
  refine ⟨h.1, ?_⟩
  rcases h.2 with hn | ⟨g, cap, cur, rfl, _, rest⟩
  · exact .inl hn
  · exact .inr ⟨g, cap, cur, rfl, Nat.zero_le _, rest⟩

section
variable {ops : Array Oper} {rest : List Oper} {o : Oper} {a : Act} {Q : Exit → Act → World → Prop}

/-- What an append leaves of a row of one's own: it stays in its block, or lies in a new one, and then nothing that was there has turned. -/
def Grown (w : World) (v v' : Value) (w' : World) : Prop :=
  Goes v.ownBlock.toList w v'.ownBlock.toList w' ∧ (v'.ownBlock = v.ownBlock ∨ Below w.heap.size w w')

theorem Grown.trans {w w1 w2 : World} {v v1 v2 : Value} (h : Grown w v v1 w1) (k : Grown w1 v1 v2 w2) : Goes v.ownBlock.toList w v2.ownBlock.toList w2 := h.1.trans k.1

/-- append(row, v...) of several cells each. -/
theorem run_append_keeps (P : Program) (t ty e : TypeId) (i : TypeInfo) (z : Value) (size bytes : Nat) (ht : P.underlying t = some (.slice e)) (hi : P.info? e = some i) (hz : i.zero = some z) (hsize : i.size = size) (hby : i.bytes = bytes) (hzs : z.cells.size = size) (hsz : 0 < size)
    (w : World) (v : Value) (n : Nat) (xs : List Value) (hown : w.ownsRow 0 e size v n xs) (ad : Addr) (m c : Nat) (news : List Value) (hl : news.length = m * size) (hnews : ∀ j u, news[j]? = some u → w.cell? (ad.add j) = some u) (h1 : ∀ u ∈ news, u.oneCell' = true)
    (hm : 0 < m) (h63 : n + m ≤ maxLen) (hbytes : (n + m) * bytes ≤ 140737488355328) :
    ∃ v' w', (Builtin.append_ #[t, t] ty #[v, .slice (some ad) m c]).run P w = .ok v' w' ∧ w'.ownsRow 0 e size v' (n + m) (xs ++ news) ∧ Grown w v v' w' := by
  rcases hown.2 with ⟨rfl, rfl⟩ | ⟨g, cap, cur, rfl, _, hg, hnc, hcm, hcs, htake⟩
  · have hxs : xs = [] := List.eq_nil_of_length_eq_zero (by simpa using hown.1)
    subst hxs
    obtain ⟨v', w', hr, h2, h3, _⟩ := run_append_own (P := P) w w.heap.size t ty e i z size bytes ht hi hz hsize hby hzs hsz (.slice none 0 0) 0 [] (World.ownsRow_nil _ _ _ _) ad m c news hl hnews h1 h63 hbytes (Nat.le_refl _)
    have hk : Kept [] w w' := Kept.of_grown h3 (fun k hk => by cases hk)
    refine ⟨v', w', hr, row_base0 h2, ⟨hk, fun k hk => .inr (h2.lt k (by simpa using hk)).1⟩, .inr ⟨h3.os, h3.tape, h3.output, h3.size, fun k hk => h3.block k hk (by simp [Value.ownBlock])⟩⟩
  · by_cases hroom : n + m ≤ cap
    · obtain ⟨w', hr, h2, h3⟩ := run_append_fits (P := P) w 0 t ty e i size ht hi hsize g n cap xs hown ad m c news hl hnews h1 hroom
      exact ⟨_, w', hr, h2, ⟨Kept.of_grown h3 (fun k hk => by cases hk; simp [Value.ownBlock]), fun k hk => .inl hk⟩, .inl rfl⟩
    · have holds := hown.cells (g := g) rfl
      have hl1 : xs.length = n * i.size := by rw [hsize]; exact hown.1
      have hr := run_append_grow (P := P) (w := w) t ty e i z ht hi hz ⟨g, 0, none⟩ n cap xs hl1 holds ad m c news (by rw [hsize]; exact hl) hnews (by omega) (by unfold maxLen at h63; omega) (growslice_fits (by omega) (by rw [hby]; exact hbytes))
      refine ⟨_, _, hr, ?_, ?_⟩
      · have hge := grownCap_ge w (n + m) cap e
        have hcm2 := grownCap_le_maxLen w (n + m) cap e h63
        generalize grownCap w (n + m) cap e = C at *
        have hlx : xs.length = n * size := hown.1
        refine ⟨by rw [List.length_append, hlx, hl, Nat.add_mul], .inr ⟨_, _, _, rfl, Nat.zero_le _, heap_alloc_new w.drew _, hge, hcm2, ?_, ?_⟩⟩
        · simp only [Array.size_append, List.size_toArray, size_zeroCells, hzs, hlx, hl, ← Nat.add_mul]
          congr 1
          omega
        · simp only [Array.toList_append, List.append_assoc]
          rw [← List.append_assoc, List.take_append_of_le_length (by rw [List.length_append, hlx, hl, ← Nat.add_mul]; exact Nat.le_refl _), List.take_of_length_le (by rw [List.length_append, hlx, hl, ← Nat.add_mul]; exact Nat.le_refl _)]
      · have hb : Below w.heap.size w (w.drew.alloc (.cells (xs.toArray ++ news.toArray ++ Builtin.zeroCells z.cells (grownCap w (n + m) cap e - (n + m))) e)) := ⟨rfl, rfl, rfl, by simp, fun k hk => Below.heap_alloc w.drew _ k hk⟩
        exact ⟨⟨Kept.of_below hb, fun k hk => .inr (by
          simp [Value.ownBlock] at hk
          subst hk
          exact Nat.le_refl _)⟩, .inr hb⟩

/-- The same, as an operation; the source may be empty. -/
theorem wp_append_keeps {P : Program} {K : Act → World → Prop} (s x : Operand) (t e : TypeId) (i : TypeInfo) (z : Value) (size bytes : Nat) (ht : P.underlying t = some (.slice e)) (hi : P.info? e = some i) (hz : i.zero = some z) (hsize : i.size = size) (hby : i.bytes = bytes) (hzs : z.cells.size = size) (hsz : 0 < size)
    (ho : o.op = .call { callee := .builtin .append, args := #[s, x], argTypes := #[t, t] })
    (w : World) (v : Value) (n : Nat) (xs : List Value) (hs : a.eval s = v) (hown : w.ownsRow 0 e size v n xs) (ad : Addr) (m c : Nat) (hx : a.eval x = .slice (some ad) m c) (news : List Value) (hl : news.length = m * size) (hnews : ∀ j u, news[j]? = some u → w.cell? (ad.add j) = some u) (h1 : ∀ u ∈ news, u.oneCell' = true)
    (hm : 0 < m) (h63 : n + m ≤ maxLen) (hbytes : (n + m) * bytes ≤ 140737488355328)
    (h : ∀ v' w', w'.ownsRow 0 e size v' (n + m) (xs ++ news) → Grown w v v' w' → K (a.put o.dst v') w') : o.wp P a w K Q := by
  obtain ⟨v', w', hr, h2, h3⟩ := run_append_keeps P t o.type e i z size bytes ht hi hz hsize hby hzs hsz w v n xs hown ad m c news hl hnews h1 hm h63 hbytes
  unfold Oper.wp execOp
  simp only [ho, resolve, invoke, builtin, Sem.run_bind, Sem.run_pure, Result.andThen_ok, List.map_toArray, List.map_cons, List.map_nil, hs, hx, hr]
  exact h v' w' h2 h3

theorem wpList_append_keeps (hgd : o.guard = none) (s x : Operand) (t e : TypeId) (i : TypeInfo) (z : Value) (size bytes : Nat) (ht : Tryz.prog.underlying t = some (.slice e)) (hi : Tryz.prog.info? e = some i) (hz : i.zero = some z) (hsize : i.size = size) (hby : i.bytes = bytes) (hzs : z.cells.size = size) (hsz : 0 < size)
    (ho : o.op = .call { callee := .builtin .append, args := #[s, x], argTypes := #[t, t] })
    (w : World) (v : Value) (n : Nat) (xs : List Value) (hs : a.eval s = v) (hown : w.ownsRow 0 e size v n xs) (ad : Addr) (m c : Nat) (hx : a.eval x = .slice (some ad) m c) (news : List Value) (hl : news.length = m * size) (hnews : ∀ j u, news[j]? = some u → w.cell? (ad.add j) = some u) (h1 : ∀ u ∈ news, u.oneCell' = true)
    (hm : 0 < m) (h63 : n + m ≤ maxLen) (hbytes : (n + m) * bytes ≤ 140737488355328)
    (h : ∀ v' w', w'.ownsRow 0 e size v' (n + m) (xs ++ news) → Grown w v v' w' → wpList Tryz.prog ops Q rest (a.put o.dst v') w') : wpList Tryz.prog ops Q (o :: rest) a w :=
  wpList_plain hgd fun _ hK => wp_append_keeps s x t e i z size bytes ht hi hz hsize hby hzs hsz ho w v n xs hs hown ad m c hx news hl hnews h1 hm h63 hbytes (fun v' w' h2 h3 => hK _ _ (h v' w' h2 h3))

/-- append(row, row...), both of the call's own; the second one may be empty. -/
theorem wpList_append_row (hgd : o.guard = none) (s x : Operand) (t e : TypeId) (i : TypeInfo) (z : Value) (size bytes : Nat) (ht : Tryz.prog.underlying t = some (.slice e)) (hi : Tryz.prog.info? e = some i) (hz : i.zero = some z) (hsize : i.size = size) (hby : i.bytes = bytes) (hzs : z.cells.size = size) (hsz : 0 < size)
    (ho : o.op = .call { callee := .builtin .append, args := #[s, x], argTypes := #[t, t] })
    (w : World) (v : Value) (n : Nat) (xs : List Value) (hs : a.eval s = v) (hown : w.ownsRow 0 e size v n xs) (u : Value) (m : Nat) (news : List Value) (hx : a.eval x = u) (hown2 : w.ownsRow 0 e size u m news) (h1 : ∀ y ∈ news, y.oneCell' = true)
    (hm : 0 < m) (h63 : n + m ≤ maxLen) (hbytes : (n + m) * bytes ≤ 140737488355328)
    (h : ∀ v' w', w'.ownsRow 0 e size v' (n + m) (xs ++ news) → Grown w v v' w' → wpList Tryz.prog ops Q rest (a.put o.dst v') w') : wpList Tryz.prog ops Q (o :: rest) a w := by
  have hl := hown2.1
  rcases hown2.2 with ⟨rfl, h0⟩ | ⟨g, cap, cur, rfl, _⟩
  · omega
  · exact wpList_append_keeps hgd s x t e i z size bytes ht hi hz hsize hby hzs hsz ho w v n xs hs hown ⟨g, 0, none⟩ m cap hx news hl (hown2.cells rfl) h1 hm h63 hbytes h
end
end Go.Proofs.YtlalhinodmmgfaaGreat

namespace Go.Proofs.YtlalhinodmmgfaaGreat
open Go.RowKit

abbrev nilV : Value := .slice none 0 0
theorem row_raise {w : World} {base : Nat} {e : TypeId} {k : Nat} {v : Value} {n : Nat} {xs : List Value} (h : w.ownsRow 0 e k v n xs) (hb : ∀ g, v.ownBlock = some g → base ≤ g) : w.ownsRow base e k v n xs := by
  refine ⟨h.1, ?_⟩
  rcases h.2 with hn | ⟨g, cap, cur, rfl, _, rest⟩
  · exact .inl hn
  · exact .inr ⟨g, cap, cur, rfl, hb g rfl, rest⟩
theorem Grown.below {w w' : World} {v v' : Value} {base : Nat} (h : Grown w v v' w') (hb : base ≤ w.heap.size) (hv : ∀ g, v.ownBlock = some g → base ≤ g) : Below base w w' ∧ ∀ g, v'.ownBlock = some g → base ≤ g :=
  ⟨h.1.1.below hb (fun k hk => hv k (by simpa using hk)), fun g hg => (h.1.2 g (by simp [hg])).elim (fun h1 => hv g (by simpa using h1)) (fun h1 => by omega)⟩

def cellsI (l : List Int) : List Value := l.map (Value.int .i64)
theorem cellsI_append (l m : List Int) : cellsI (l ++ m) = cellsI l ++ cellsI m := by simp [cellsI]
end Go.Proofs.YtlalhinodmmgfaaGreat

namespace Go.Proofs.YtlalhinodmmgfaaGreat
open Go.RowKit

def markOfI (i k : Nat) : Int := -1000000 * (i : Int) - (k : Int) - 7
def marksI (i a n : Nat) : List Int := (List.range' a n).map (markOfI i)
theorem length_marksI (i a n : Nat) : (marksI i a n).length = n := by simp [marksI]
theorem marksI_snoc (i a n : Nat) : marksI i a (n + 1) = marksI i a n ++ [markOfI i (a + n)] := by
  unfold marksI
  rw [List.range'_concat]
  simp
theorem marksI_append (i a m n : Nat) : marksI i a m ++ marksI i (a + m) n = marksI i a (m + n) := by
  unfold marksI
  rw [← List.map_append, List.range'_append_1]

set_option maxRecDepth 100000 in
set_option maxHeartbeats 1000000 in
theorem markInts_any (i a n : Nat) (w : World) (hi : i ≤ 1000) (ha : a ≤ 2000000) (hn : n ≤ 2000000) :
    Calls Tryz.prog 102 #[.int .i64 i, .int .i64 a, .int .i64 n] w fun e w' => ∃ v', e = .returned v' ∧ w'.ownsRow w.heap.size 3 1 v' n (cellsI (marksI i a n)) ∧ Below w.heap.size w w' := by
  obtain ⟨i0, hi0, hz0, hz1, hz2⟩ := info_parts Tryz.infoInt
  have HI := Lib.hid (And.intro hi0 (And.intro hz0 (And.intro hz1 hz2)))
  clear hi0 hz0 hz1 hz2
  have ha0 : (a : Int) ≤ 2000000 := by omega
  have hn0 : (n : Int) ≤ 2000000 := by omega
  have hi1 : (i : Int) ≤ 1000 := by omega
  have hi2 : (0 : Int) ≤ i := by omega
  go_enter Tryz.func102, Tryz.ntmps102
  go_wp2_with fail
  go_loopg [7, 8] n (fun g ov kv wr => ∃ (j z : Nat), kv = .int .i64 z ∧ z = a + j ∧ j + g = n ∧ wr.ownsRow w.heap.size 3 1 ov j (cellsI (marksI i a j)) ∧ Below w.heap.size w wr)
  case atStart => exact ⟨0, a, rfl, rfl, by omega, World.ownsRow_nil _ _ _ _, Below.refl _ _⟩
  case round =>
    obtain ⟨j, z, rfl, hz, hjg, hown, hb⟩ := hrel
    have hz1 : (z : Int) ≤ 4000000 := by omega
    have hz0 : (0 : Int) ≤ z := by omega
    by_cases hlt : j < n
    · have hlt1 : (z : Int) < (a : Int) + n := by omega
      obtain ⟨i0, hi0, hzz0, hzz1, hzz2⟩ := info_parts Tryz.infoInt
      have hra := World.ownsRow.alloc (row_base0 hown) (.cells #[.int .i64 (markOfI i z)] 3)
      have hgr := fun g hg => (hown.lt g hg).1
      have hsn := marksI_snoc i a j
      rw [← hz] at hsn
      have HB := Lib.hid (And.intro hb (And.intro hgr (And.intro hsn hz)))
      have hbs := hb.size
      have hmk : markOfI i z = -1000000 * (i : Int) - (z : Int) - 7 := rfl
      rw [hmk] at hra
      clear hown hb hgr hsn hmk hz
      go_wp2_with (at_builtin; refine wpList_append_keeps rfl _ _ 22 3 i0 (.int .i64 0) 1 8 Tryz.underlying22 hi0 hzz0 hzz1 hzz2 rfl (by decide) rfl _ u7 j _ rfl hra ⟨wr.heap.size, 0, none⟩ 1 1 rfl [.int .i64 (-1000000 * (i : Int) - (z : Int) - 7)] rfl (cell_one_new _ _ _) (by intro u hu; simp at hu; subst hu; rfl) (by omega) (by unfold maxLen; omega) (by omega) ?_; intro v' w' hown' hgn)
      go_roundg (n - (j + 1))
      case measure => omega
      case rel =>
        obtain ⟨hb, hgr, hsn, hz⟩ := HB.out
        have hal : Below wr.heap.size wr (wr.alloc (.cells #[.int .i64 (-1000000 * (i : Int) - (z : Int) - 7)] 3)) := (Below.refl _ _).alloc (Nat.le_refl _) _
        obtain ⟨hb2, hg2⟩ := hgn.below (base := w.heap.size) (Nat.le_trans hbs hal.size) hgr
        refine ⟨j + 1, z + 1, by go_num, by omega, by omega, ?_, (hb.trans (hal.mono hbs)).trans hb2⟩
        have h5 := row_raise hown' hg2
        rw [hsn, cellsI_append]
        exact h5
    · obtain rfl : j = n := by omega
      have hge : decide ((z : Int) < (a : Int) + j) = false := by simp; omega
      have HB := Lib.hid (And.intro hown hb)
      clear hown hb hz
      go_wp2_with fail
      go_ret
      exact ⟨_, rfl, HB.out.1, HB.out.2⟩

theorem copyInts_any {v : Value} {n : Nat} {l : List Int} {w : World} (h : w.ownsRow 0 3 1 v n (cellsI l)) (hl : n ≤ 1000000) :
    Calls Tryz.prog 33 #[v] w fun e w' => ∃ v', e = .returned v' ∧ w'.ownsRow w.heap.size 3 1 v' n (cellsI l) ∧ Below w.heap.size w w' := by
  have hr := row_reads1 h
  have hn : (cellsI l).length = n := by simpa using h.1
  have hform : ∀ n c, v = .slice none n c → n = 0 ∧ c = 0 := by
    intro m c e
    rcases h.2 with ⟨h1, _⟩ | ⟨g, cap, cur, h1, _⟩
    · rw [h1] at e; cases e; exact ⟨rfl, rfl⟩
    · rw [h1] at e; cases e
  have h1 : ∀ u ∈ cellsI l, u.oneCell' = true := int_one
  obtain ⟨A, c, rfl⟩ := row_form h
  generalize cellsI l = vals at *
  clear h
  go_enter Tryz.func33, Tryz.ntmps33
  go_wp2_with (at_builtin; refine append_copy rfl _ _ 22 3 (.int .i64 0) 8 Tryz.underlying22 Tryz.infoInt rfl (by decide) rfl w.heap.size w rfl w.heap.size (.slice A n c) rfl vals hr hform h1 (by omega) (Nat.le_refl _) ?_; intro v1 w1 hown hb1)
  go_ret
  rw [hn] at hown
  exact ⟨_, rfl, hown, hb1⟩
end Go.Proofs.YtlalhinodmmgfaaGreat
