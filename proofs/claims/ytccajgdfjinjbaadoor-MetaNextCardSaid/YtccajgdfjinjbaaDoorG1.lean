/-
  What a crash leaves of each page: its writes one behind the other, each in the sectors that stay.
-/
import Derived.Test.YtccajgdfjinjbaaDoorE0
namespace Go.Proofs.YtccajgdfjinjbaaDoor
open Go.RowKit Go.Lib

/-- What is left of page p, which was b, behind writes r, the first one with the i-th keep. -/
def after (keep : Nat → Int) (p : Nat) : Nat → List (Int × ByteArray) → ByteArray → ByteArray
  | _, [], b => b
  | i, (n, d) :: r, b => after keep p (i + 1) r (if n.toNat = p then mixB b d (keep i) else b)

theorem after_snoc (keep : Nat → Int) (p : Nat) (n : Int) (d : ByteArray) : ∀ (r : List (Int × ByteArray)) (i : Nat) (b : ByteArray),
    after keep p i (r ++ [(n, d)]) b = if n.toNat = p then mixB (after keep p i r b) d (keep (i + r.length)) else after keep p i r b
  | [], i, b => by simp [after]
  | (m, x) :: r, i, b => by
    show after keep p (i + 1) (r ++ [(n, d)]) _ = _
    rw [after_snoc keep p n d r (i + 1)]
    show _ = if n.toNat = p then mixB (after keep p (i + 1) r _) d (keep (i + (r.length + 1))) else after keep p (i + 1) r _
    rw [show i + 1 + r.length = i + (r.length + 1) by omega]

theorem settled_synced (keep : Nat → Int) (p : Nat) : ∀ (r : List (Int × ByteArray)) (i : Nat) (s : DevS), (settled keep i r s).synced[p]? = (s.synced[p]?).map (after keep p i r)
  | [], i, s => by
    show s.synced[p]? = _
    cases s.synced[p]? <;> rfl
  | (n, d) :: r, i, s => by
    show (settled keep (i + 1) r (settle1 s n d (keep i))).synced[p]? = _
    rw [settled_synced keep p r (i + 1)]
    unfold settle1
    by_cases h : n.toNat = p
    · subst h
      by_cases hl : n.toNat < s.synced.length
      · simp [List.getElem?_set, hl, after, List.getD, List.getElem?_eq_getElem hl]
      · simp [List.getElem?_set, hl]
    · simp only [List.getElem?_set, if_neg h]
      cases s.synced[p]? with
      | none => rfl
      | some b => simp [after, h]

theorem settled_pages (keep : Nat → Int) (p : Nat) : ∀ (r : List (Int × ByteArray)) (i : Nat) (s : DevS), s.synced.length = s.pages.length → (s.pages[p]? = s.synced[p]? ∨ ∃ x ∈ r, x.1.toNat = p) → (settled keep i r s).pages[p]? = (settled keep i r s).synced[p]?
  | [], i, s, _, h => by
    rcases h with h | ⟨x, hx, _⟩
    · exact h
    · cases hx
  | (n, d) :: r, i, s, hlen, h => by
    refine settled_pages keep p r (i + 1) (settle1 s n d (keep i)) (by simp [settle1, hlen]) ?_
    by_cases hn : n.toNat = p
    · left
      simp [settle1, List.getElem?_set, hn, hlen]
    · rcases h with h | ⟨x, hx, h2⟩
      · left
        simp only [settle1, List.getElem?_set, if_neg hn]
        exact h
      · rcases List.mem_cons.1 hx with rfl | hx
        · exact absurd h2 hn
        · exact .inr ⟨x, hx, h2⟩

/-- A sector of a page of which sectors of a write stay. -/
theorem mixB_sector {old d : ByteArray} {keep : Int} (h1 : old.size = 256) (h2 : d.size = 256) {i : Nat} (hi : i < 8) :
    sector i (mixB old d keep).data.toList = sector i (if kept keep i then d.data.toList else old.data.toList) := by
  unfold mixB
  exact mixL_sector (old := old.data.toList) (data := d.data.toList) (by rw [← h1]; rfl) (by rw [← h2]; rfl) hi
theorem after_size (keep : Nat → Int) (p : Nat) : ∀ (r : List (Int × ByteArray)) (i : Nat) (b : ByteArray), b.size = 256 → (∀ x ∈ r, x.2.size = 256) → (after keep p i r b).size = 256
  | [], _, _, h, _ => h
  | (n, d) :: r, i, b, h, hr => by
    refine after_size keep p r (i + 1) _ ?_ (fun x hx => hr x (List.mem_cons_of_mem _ hx))
    split
    · exact mixB_size h (hr (n, d) (List.mem_cons_self ..))
    · exact h
/-- Each sector is what it was, or what a write of this page had there. -/
theorem after_sector (keep : Nat → Int) (p k : Nat) (hk : k < 8) : ∀ (r : List (Int × ByteArray)) (i : Nat) (b : ByteArray), b.size = 256 → (∀ x ∈ r, x.2.size = 256) →
    sector k (after keep p i r b).data.toList = sector k b.data.toList ∨ ∃ (j : Nat) (x : Int × ByteArray), r[j]? = some x ∧ x.1.toNat = p ∧ sector k (after keep p i r b).data.toList = sector k x.2.data.toList
  | [], _, _, _, _ => .inl rfl
  | (n, d) :: r, i, b, h, hr => by
    have hd : d.size = 256 := hr (n, d) (List.mem_cons_self ..)
    have hr' : ∀ x ∈ r, x.2.size = 256 := fun x hx => hr x (List.mem_cons_of_mem _ hx)
    by_cases hn : n.toNat = p
    · have e : after keep p i ((n, d) :: r) b = after keep p (i + 1) r (mixB b d (keep i)) := by
        show after keep p (i + 1) r _ = _
        rw [if_pos hn]
      rw [e]
      rcases after_sector keep p k hk r (i + 1) (mixB b d (keep i)) (mixB_size h hd) hr' with h3 | ⟨j, x, h3, h4, h5⟩
      · rw [h3, mixB_sector h hd hk]
        by_cases hkp : kept (keep i) k = true
        · rw [if_pos hkp]
          exact .inr ⟨0, (n, d), rfl, hn, rfl⟩
        · rw [if_neg hkp]
          exact .inl rfl
      · exact .inr ⟨j + 1, x, h3, h4, h5⟩
    · have e : after keep p i ((n, d) :: r) b = after keep p (i + 1) r b := by
        show after keep p (i + 1) r _ = _
        rw [if_neg hn]
      rw [e]
      rcases after_sector keep p k hk r (i + 1) b h hr' with h3 | ⟨j, x, h3, h4, h5⟩
      · exact .inl h3
      · exact .inr ⟨j + 1, x, h3, h4, h5⟩

/-- A byte of a page, and of its sector. -/
theorem byte_sector (l : List UInt8) (k j : Nat) (hj : j < 32) : l[32 * k + j]? = (sector k l)[j]? := by
  unfold sector
  rw [List.getElem?_take, if_pos hj, List.getElem?_drop]
theorem filledB_byte (b k j : Nat) (hj : j < 256) (hne : k % 256 ≠ j) : (filledB b k).data.toList[j]? = some b.toUInt8 := by
  show (filled b k).toArray.toList[j]? = _
  unfold filled
  rw [List.getElem?_set, if_neg hne, List.getElem?_replicate, if_pos hj]
theorem filledB_any (b k : Nat) (w : World) (hb : b < 256) : Calls Tryd.prog 25 #[.int .u8 b, .int .i64 k] w fun e w' => e = .returned (.string (filledB b k)) ∧ Below w.heap.size w w' := filled_any b k w hb
theorem blank_byte (j : Nat) (hj : j < 256) : blank.data.toList[j]? = some 0 := by
  show (List.replicate 256 (0 : UInt8)).toArray.toList[j]? = _
  rw [List.getElem?_replicate, if_pos hj]

/-- v is a []string of the call's own, from block base on, that holds the texts l. -/
def Texts (w : World) (base : Nat) (v : Value) (l : List ByteArray) : Prop := w.ownsRow base 9 1 v l.length (l.map Value.string)
theorem Texts.nil_ (w : World) (base : Nat) : Texts w base (.slice none 0 0) [] := World.ownsRow_nil w base 9 1
theorem Texts.kept {w w' : World} {base : Nat} {v : Value} {l : List ByteArray} {F : List Nat} (h : Texts w base v l) (k : Kept F w w') (hn : ∀ i ∈ F, i < base ∨ w.heap.size ≤ i) : Texts w' base v l :=
  row_kept h k (fun g e hg => by have := World.ownsRow.lt h g e; have := hn g hg; omega)
theorem Texts.form {w : World} {base : Nat} {v : Value} {l : List ByteArray} (h : Texts w base v l) : ∃ A c, v = .slice A l.length c ∧ ∀ (j : Nat) (x : ByteArray), l[j]? = some x → ∃ g, A = some ⟨g, 0, none⟩ ∧ w.cell? ⟨g, j, none⟩ = some (.string x) := by
  obtain ⟨A, c, rfl, _, hc⟩ := row_form h
  exact ⟨A, c, rfl, fun j x hx => hc j _ (by rw [List.getElem?_map, hx]; rfl)⟩

/-- append(l, x) of one's own []string. -/
theorem append_text {ops : Array Oper} {rest : List Oper} {o : Oper} {a : Act} {Q : Exit → Act → World → Prop} (hgd : o.guard = none) (s x : Operand)
    (ho : o.op = .call { callee := .builtin .append, args := #[s, x], argTypes := #[61, 61] })
    (base : Nat) (wr : World) (bv : Value) (m : List ByteArray) (hs : a.eval s = bv) (hrow : Texts wr base bv m) (y : ByteArray) (hx : a.eval x = .slice (some ⟨wr.heap.size, 0, none⟩) 1 1)
    (hlen : m.length ≤ 1000000) (hbase : base ≤ wr.heap.size)
    (h : ∀ v' w', Texts w' base v' (m ++ [y]) → Below base wr w' → wpList Tryd.prog ops Q rest (a.put o.dst v') w') : wpList Tryd.prog ops Q (o :: rest) a (wr.alloc (.cells #[.string y] 9)) := by
  obtain ⟨i0, hi, hz0, hz1, hz2⟩ := info_parts Tryd.infoStr2
  have hra : Texts (wr.alloc (.cells #[.string y] 9)) base bv m := World.ownsRow.alloc hrow _
  refine wpList_append_own _ hgd s x 61 ho base 9 i0 (.string ⟨#[]⟩) 1 16 Tryd.underlying61 hi hz0 hz1 hz2 rfl (by decide) _ _ _ hs hra ⟨wr.heap.size, 0, none⟩ 1 1 [.string y] hx rfl
    (cell_one_new _ _ _) (by intro u hu; simp at hu; subst hu; rfl) (by unfold maxLen; omega) (by omega) (by simp; omega) ?_
  intro v' w' h1 h2 _
  refine h v' w' ?_ (((Below.refl base wr).alloc hbase _).trans ((Below.refl base _).grown h2 (by simp; omega) (fun k hk => (World.ownsRow.lt hra k hk).1)))
  unfold Texts
  rw [List.length_append, List.map_append]
  exact h1
end Go.Proofs.YtccajgdfjinjbaaDoor
