/-
  Walks: Sync, Crash. A device's calls, each by one contract. What a crash leaves of each page: its writes one behind the other, each in the sectors that stay.
-/
import Derived.Test.YthcpjpebahiikaaDoorMg30
import Derived.Shelf.Abstract
namespace Go.Proofs.YthcpjpebahiikaaDoor
open Go.RowKit Go.Lib


/-- v is a slice that reads as the values xs, in a block that is none of F's. -/
def Reads2 (w : World) (F : List Nat) (v : Value) (xs : List Value) : Prop :=
  ∃ (A : Option Addr) (c : Nat), v = .slice A xs.length c ∧ (0 < xs.length → ∃ b off, A = some ⟨b, off, none⟩ ∧ b < w.heap.size ∧ b ∉ F ∧ ∀ (j : Nat) (u : Value), xs[j]? = some u → w.cell? ⟨b, off + j, none⟩ = some u)
theorem Reads2.kept {w w' : World} {F G : List Nat} {v : Value} {xs : List Value} (h : Reads2 w F v xs) (hk : Kept G w w') (hG : ∀ k ∈ G, k ∈ F ∨ w.heap.size ≤ k) : Reads2 w' F v xs := by
  obtain ⟨A, c, rfl, h⟩ := h
  refine ⟨A, c, rfl, fun hn => ?_⟩
  obtain ⟨b, off, rfl, h1, h2, h3⟩ := h hn
  refine ⟨b, off, rfl, Nat.lt_of_lt_of_le h1 hk.size, h2, fun j u hu => (hk.cell (p := ⟨b, off + j, none⟩) h1 (fun hb => ?_)).trans (h3 j u hu)⟩
  rcases hG b hb with h4 | h4
  · exact h2 h4
  · omega
theorem Reads2.sub {w : World} {F G : List Nat} {v : Value} {xs : List Value} (h : Reads2 w F v xs) (hG : ∀ k ∈ G, k ∈ F ∨ w.heap.size ≤ k) : Reads2 w G v xs := by
  obtain ⟨A, c, rfl, h⟩ := h
  refine ⟨A, c, rfl, fun hn => ?_⟩
  obtain ⟨b, off, rfl, h1, h2, h3⟩ := h hn
  refine ⟨b, off, rfl, h1, fun hb => ?_, h3⟩
  rcases hG b hb with h4 | h4
  · exact h2 h4
  · omega
theorem Reads1.off {w : World} {B : Nat} {F : List Nat} {v : Value} {xs : List Value} (h : Reads1 w B v xs) (hB : B ≤ w.heap.size) (hF : ∀ k ∈ F, B ≤ k) : Reads2 w F v xs := by
  obtain ⟨A, c, rfl, h⟩ := h
  refine ⟨A, c, rfl, fun hn => ?_⟩
  obtain ⟨b, off, rfl, h1, h3⟩ := h hn
  exact ⟨b, off, rfl, by omega, fun hb => by have := hF b hb; omega, h3⟩
theorem Reads2.built (w : World) (t : TypeId) (cs : Array Value) (F : List Nat) (hF : ∀ k ∈ F, k < w.heap.size) : Reads2 (w.alloc (.cells cs t)) F (.slice (some ⟨w.heap.size, 0, none⟩) cs.size cs.size) cs.toList := by
  refine ⟨some ⟨w.heap.size, 0, none⟩, cs.size, by simp, fun _ => ⟨w.heap.size, 0, rfl, by simp, fun hb => by have := hF _ hb; omega, fun j u hu => ?_⟩⟩
  rw [Nat.zero_add, (Has.made w t cs).cell j]
  simpa using hu

/-- The keep of a place. -/
def keepOf (l : List Int) (i : Nat) : Int := l.getD i 0


/-- What Sync leaves, where there is power. -/
def syncedS (s : DevS) : DevS := settled (fun _ => 255) 0 s.line s
/-- What a crash leaves. -/
def crashS (s : DevS) (l : List Int) : DevS := settled (keepOf l) 0 s.line { s with on := false, fuse := -1 }





end Go.Proofs.YthcpjpebahiikaaDoor

namespace Go.Proofs.YthcpjpebahiikaaDoor
open Go.RowKit Go.Lib

def growAE (s : DevS) (n : Int) : Int := if (powS s).on = true then growE (powS s) n else 14
def growAS (s : DevS) (n : Int) : DevS := if (powS s).on = true then growS (powS s) n else powS s
theorem grow_any (p : Nat) (s : DevS) (F : List Nat) (n : Int) (w : World) (h : DevAt w p s F) :
    Calls Tryd.prog 13 #[.pointer (some ⟨p, 0, none⟩), .int .i64 n] w (DevTo p (growAS s n) (.int .i64 (growAE s n)) F w) := by
  unfold growAE growAS
  by_cases hon : (powS s).on = true
  · rw [if_pos hon, if_pos hon]
    exact grow_on p s F n w h hon
  · rw [if_neg hon, if_neg hon]
    exact grow_off p s F n w h (by simpa using hon)

def syncAE (s : DevS) : Int := if (powS s).on = true then 0 else 14
def syncAS (s : DevS) : DevS := if (powS s).on = true then syncedS (powS s) else powS s

/-- A device that has power, and no fuse. -/
structure Idle (s : DevS) : Prop where
  on : s.on = true
  fuse : s.fuse = -1
theorem Idle.pow {s : DevS} (h : Idle s) : powS s = s := by unfold powS; rw [if_pos h.on, if_pos h.fuse]
theorem Idle.write {s : DevS} (h : Idle s) {n : Int} {d : ByteArray} (h0 : 0 ≤ n) (h1 : n < s.pages.length) (h2 : d.size = 256) : writeE s n d = 0 ∧ writeS s n d = wroteS s n d ∧ Idle (wroteS s n d) := by
  have hf : faultE s n d = 0 := by unfold faultE; rw [if_pos ⟨h0, h1⟩, if_pos h2]
  unfold writeE writeS
  rw [h.pow, if_pos h.on, if_pos h.on, if_pos h.on, if_pos hf]
  exact ⟨hf, rfl, h.on, h.fuse⟩
theorem Idle.sync {s : DevS} (h : Idle s) : syncAE s = 0 ∧ syncAS s = syncedS s := by
  unfold syncAE syncAS
  rw [h.pow, if_pos h.on, if_pos h.on]
  exact ⟨rfl, rfl⟩
theorem Idle.grow {s : DevS} (h : Idle s) (n : Int) : growAE s n = growE s n ∧ growAS s n = growS s n := by
  unfold growAE growAS
  rw [h.pow, if_pos h.on, if_pos h.on]
  exact ⟨rfl, rfl⟩
theorem newS_idle (n : Int) : Idle (newS n) := ⟨rfl, rfl⟩
theorem longer_idle {s : DevS} (h : Idle s) (k : Nat) : Idle (longer s k) := ⟨h.on, h.fuse⟩
/-- A crash, and power again: what of a device a settling does not touch. -/
theorem settled_flags (keep : Nat → Int) : ∀ (r : List (Int × ByteArray)) (i : Nat) (s : DevS), (settled keep i r s).on = s.on ∧ (settled keep i r s).fuse = s.fuse ∧ (settled keep i r s).most = s.most ∧ (settled keep i r s).line = [] ∧
    (settled keep i r s).pages.length = s.pages.length ∧ (settled keep i r s).synced.length = s.synced.length ∧ (settled keep i r s).cap = s.cap
  | [], _, _ => ⟨rfl, rfl, rfl, rfl, rfl, rfl, rfl⟩
  | (n, d) :: r, i, s => by
    obtain ⟨a, b, c, e, f, g, h⟩ := settled_flags keep r (i + 1) (settle1 s n d (keep i))
    unfold settled
    exact ⟨a, b, c, e, by rw [f]; simp [settle1], by rw [g]; simp [settle1], h⟩
theorem synced_idle {s : DevS} (h : Idle s) : Idle (syncedS s) := by
  obtain ⟨a, b, _⟩ := settled_flags (fun _ => 255) s.line 0 s
  exact ⟨a.trans h.on, b.trans h.fuse⟩

/-- The page of a byte b, as a text. -/
def filledB (b k : Nat) : ByteArray := ⟨(filled b k).toArray⟩
theorem filledB_size (b k : Nat) : (filledB b k).size = 256 := by
  show (filled b k).toArray.size = 256
  rw [List.size_toArray, filled_length]
end Go.Proofs.YthcpjpebahiikaaDoor

namespace Go.Proofs.YthcpjpebahiikaaDoor
open Go.RowKit Go.Lib

/-- What is left of page p, which was b, behind writes r, the first one with the i-th keep. -/
def after (keep : Nat → Int) (p : Nat) : Nat → List (Int × ByteArray) → ByteArray → ByteArray
  | _, [], b => b
  | i, (n, d) :: r, b => after keep p (i + 1) r (if n.toNat = p then mixB b d (keep i) else b)

theorem after_snoc (keep : Nat → Int) (p : Nat) (n : Int) (d : ByteArray) : ∀ (r : List (Int × ByteArray)) (i : Nat) (b : ByteArray),
    after keep p i (r ++ [(n, d)]) b = if n.toNat = p then mixB (after keep p i r b) d (keep (i + r.length)) else after keep p i r b
  | [], i, b => by simp [after]
  | (m, x) :: r, i, b => by
    show after keep p (i + 1) (r ++ [(n, d)]) _ = _
    rw [after_snoc keep p n d r (i + 1)]
    show _ = if n.toNat = p then mixB (after keep p (i + 1) r _) d (keep (i + (r.length + 1))) else after keep p (i + 1) r _
    rw [show i + 1 + r.length = i + (r.length + 1) by omega]

theorem settled_synced (keep : Nat → Int) (p : Nat) : ∀ (r : List (Int × ByteArray)) (i : Nat) (s : DevS), (settled keep i r s).synced[p]? = (s.synced[p]?).map (after keep p i r)
  | [], i, s => by
    show s.synced[p]? = _
    cases s.synced[p]? <;> rfl
  | (n, d) :: r, i, s => by
    show (settled keep (i + 1) r (settle1 s n d (keep i))).synced[p]? = _
    rw [settled_synced keep p r (i + 1)]
    unfold settle1
    by_cases h : n.toNat = p
    · subst h
      by_cases hl : n.toNat < s.synced.length
      · simp [List.getElem?_set, hl, after, List.getD, List.getElem?_eq_getElem hl]
      · simp [List.getElem?_set, hl]
    · simp only [List.getElem?_set, if_neg h]
      cases s.synced[p]? with
      | none => rfl
      | some b => simp [after, h]

theorem settled_pages (keep : Nat → Int) (p : Nat) : ∀ (r : List (Int × ByteArray)) (i : Nat) (s : DevS), s.synced.length = s.pages.length → (s.pages[p]? = s.synced[p]? ∨ ∃ x ∈ r, x.1.toNat = p) → (settled keep i r s).pages[p]? = (settled keep i r s).synced[p]?
  | [], i, s, _, h => by
    rcases h with h | ⟨x, hx, _⟩
    · exact h
    · cases hx
  | (n, d) :: r, i, s, hlen, h => by
    refine settled_pages keep p r (i + 1) (settle1 s n d (keep i)) (by simp [settle1, hlen]) ?_
    by_cases hn : n.toNat = p
    · left
      simp [settle1, List.getElem?_set, hn, hlen]
    · rcases h with h | ⟨x, hx, h2⟩
      · left
        simp only [settle1, List.getElem?_set, if_neg hn]
        exact h
      · rcases List.mem_cons.1 hx with rfl | hx
        · exact absurd h2 hn
        · exact .inr ⟨x, hx, h2⟩

/-- A sector of a page of which sectors of a write stay. -/
theorem mixB_sector {old d : ByteArray} {keep : Int} (h1 : old.size = 256) (h2 : d.size = 256) {i : Nat} (hi : i < 8) :
    sector i (mixB old d keep).data.toList = sector i (if kept keep i then d.data.toList else old.data.toList) := by
  unfold mixB
  exact mixL_sector (old := old.data.toList) (data := d.data.toList) (by rw [← h1]; rfl) (by rw [← h2]; rfl) hi
theorem after_size (keep : Nat → Int) (p : Nat) : ∀ (r : List (Int × ByteArray)) (i : Nat) (b : ByteArray), b.size = 256 → (∀ x ∈ r, x.2.size = 256) → (after keep p i r b).size = 256
  | [], _, _, h, _ => h
  | (n, d) :: r, i, b, h, hr => by
    refine after_size keep p r (i + 1) _ ?_ (fun x hx => hr x (List.mem_cons_of_mem _ hx))
    split
    · exact mixB_size h (hr (n, d) (List.mem_cons_self ..))
    · exact h
/-- Each sector is what it was, or what a write of this page had there. -/
theorem after_sector (keep : Nat → Int) (p k : Nat) (hk : k < 8) : ∀ (r : List (Int × ByteArray)) (i : Nat) (b : ByteArray), b.size = 256 → (∀ x ∈ r, x.2.size = 256) →
    sector k (after keep p i r b).data.toList = sector k b.data.toList ∨ ∃ (j : Nat) (x : Int × ByteArray), r[j]? = some x ∧ x.1.toNat = p ∧ sector k (after keep p i r b).data.toList = sector k x.2.data.toList
  | [], _, _, _, _ => .inl rfl
  | (n, d) :: r, i, b, h, hr => by
    have hd : d.size = 256 := hr (n, d) (List.mem_cons_self ..)
    have hr' : ∀ x ∈ r, x.2.size = 256 := fun x hx => hr x (List.mem_cons_of_mem _ hx)
    by_cases hn : n.toNat = p
    · have e : after keep p i ((n, d) :: r) b = after keep p (i + 1) r (mixB b d (keep i)) := by
        show after keep p (i + 1) r _ = _
        rw [if_pos hn]
      rw [e]
      rcases after_sector keep p k hk r (i + 1) (mixB b d (keep i)) (mixB_size h hd) hr' with h3 | ⟨j, x, h3, h4, h5⟩
      · rw [h3, mixB_sector h hd hk]
        by_cases hkp : kept (keep i) k = true
        · rw [if_pos hkp]
          exact .inr ⟨0, (n, d), rfl, hn, rfl⟩
        · rw [if_neg hkp]
          exact .inl rfl
      · exact .inr ⟨j + 1, x, h3, h4, h5⟩
    · have e : after keep p i ((n, d) :: r) b = after keep p (i + 1) r b := by
        show after keep p (i + 1) r _ = _
        rw [if_neg hn]
      rw [e]
      rcases after_sector keep p k hk r (i + 1) b h hr' with h3 | ⟨j, x, h3, h4, h5⟩
      · exact .inl h3
      · exact .inr ⟨j + 1, x, h3, h4, h5⟩

/-- A byte of a page, and of its sector. -/
theorem byte_sector (l : List UInt8) (k j : Nat) (hj : j < 32) : l[32 * k + j]? = (sector k l)[j]? := by
  unfold sector
  rw [List.getElem?_take, if_pos hj, List.getElem?_drop]
theorem filledB_byte (b k j : Nat) (hj : j < 256) (hne : k % 256 ≠ j) : (filledB b k).data.toList[j]? = some b.toUInt8 := by
  show (filled b k).toArray.toList[j]? = _
  unfold filled
  rw [List.getElem?_set, if_neg hne, List.getElem?_replicate, if_pos hj]
theorem filledB_any (b k : Nat) (w : World) (hb : b < 256) : Calls Tryd.prog 20 #[.int .u8 b, .int .i64 k] w fun e w' => e = .returned (.string (filledB b k)) ∧ Below w.heap.size w w' := filled_any b k w hb
theorem blank_byte (j : Nat) (hj : j < 256) : blank.data.toList[j]? = some 0 := by
  show (List.replicate 256 (0 : UInt8)).toArray.toList[j]? = _
  rw [List.getElem?_replicate, if_pos hj]

/-- v is a []string of the call's own, from block base on, that holds the texts l. -/
def Texts (w : World) (base : Nat) (v : Value) (l : List ByteArray) : Prop := w.ownsRow base 9 1 v l.length (l.map Value.string)
theorem Texts.nil_ (w : World) (base : Nat) : Texts w base (.slice none 0 0) [] := World.ownsRow_nil w base 9 1
theorem Texts.kept {w w' : World} {base : Nat} {v : Value} {l : List ByteArray} {F : List Nat} (h : Texts w base v l) (k : Kept F w w') (hn : ∀ i ∈ F, i < base ∨ w.heap.size ≤ i) : Texts w' base v l :=
  row_kept h k (fun g e hg => by have := World.ownsRow.lt h g e; have := hn g hg; omega)
theorem Texts.form {w : World} {base : Nat} {v : Value} {l : List ByteArray} (h : Texts w base v l) : ∃ A c, v = .slice A l.length c ∧ ∀ (j : Nat) (x : ByteArray), l[j]? = some x → ∃ g, A = some ⟨g, 0, none⟩ ∧ w.cell? ⟨g, j, none⟩ = some (.string x) := by
  obtain ⟨A, c, rfl, _, hc⟩ := drow_form h
  exact ⟨A, c, rfl, fun j x hx => hc j _ (by rw [List.getElem?_map, hx]; rfl)⟩

/-- append(l, x) of one's own []string. -/
theorem append_text {ops : Array Oper} {rest : List Oper} {o : Oper} {a : Act} {Q : Exit → Act → World → Prop} (hgd : o.guard = none) (s x : Operand)
    (ho : o.op = .call { callee := .builtin .append, args := #[s, x], argTypes := #[57, 57] })
    (base : Nat) (wr : World) (bv : Value) (m : List ByteArray) (hs : a.eval s = bv) (hrow : Texts wr base bv m) (y : ByteArray) (hx : a.eval x = .slice (some ⟨wr.heap.size, 0, none⟩) 1 1)
    (hlen : m.length ≤ 1000000) (hbase : base ≤ wr.heap.size)
    (h : ∀ v' w', Texts w' base v' (m ++ [y]) → Below base wr w' → wpList Tryd.prog ops Q rest (a.put o.dst v') w') : wpList Tryd.prog ops Q (o :: rest) a (wr.alloc (.cells #[.string y] 9)) := by
  obtain ⟨i0, hi, hz0, hz1, hz2⟩ := info_parts Tryd.infoStr2
  have hra : Texts (wr.alloc (.cells #[.string y] 9)) base bv m := World.ownsRow.alloc hrow _
  refine wpList_append_own _ hgd s x 57 ho base 9 i0 (.string ⟨#[]⟩) 1 16 Tryd.underlying57 hi hz0 hz1 hz2 rfl (by decide) _ _ _ hs hra ⟨wr.heap.size, 0, none⟩ 1 1 [.string y] hx rfl
    (cell_one_new _ _ _) (by intro u hu; simp at hu; subst hu; rfl) (by unfold maxLen; omega) (by omega) (by simp; omega) ?_
  intro v' w' h1 h2 _
  refine h v' w' ?_ (((Below.refl base wr).alloc hbase _).trans ((Below.refl base _).grown h2 (by simp; omega) (fun k hk => (World.ownsRow.lt hra k hk).1)))
  unfold Texts
  rw [List.length_append, List.map_append]
  exact h1
end Go.Proofs.YthcpjpebahiikaaDoor
