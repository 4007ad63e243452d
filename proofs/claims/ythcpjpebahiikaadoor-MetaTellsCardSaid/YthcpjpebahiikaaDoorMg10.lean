/-
  A page's bytes, as lists: nothing of the program stands here. A meta's page as lists of bytes: what Put tells, what Get tells, and that the one undoes the other.
-/
import Derived.Test.YthcpjpebahiikaaDoorMg8
import Derived.Test.YthcpjpebahiikaaDoorMg9
namespace Go.Proofs.YthcpjpebahiikaaDoor
open Go.RowKit Go.Lib

def headB (kind id next n : Nat) : List UInt8 := leb 1 kind ++ leb 4 id ++ leb 4 next ++ leb 2 n
def bodyB (kind id next : Nat) (s : List UInt8) : List UInt8 := headB kind id next s.length ++ s ++ List.replicate (241 - s.length) 0
def pageB (kind id next : Nat) (s : List UInt8) : List UInt8 := bodyB kind id next s ++ leb 4 (crcB (bodyB kind id next s))

theorem headB_len (kind id next n : Nat) : (headB kind id next n).length = 11 := by simp [headB, leb_length]
theorem bodyB_len {kind id next : Nat} {s : List UInt8} (h : s.length ≤ 240) : (bodyB kind id next s).length = 252 := by
  simp [bodyB, headB_len]
  omega
theorem pageB_len {kind id next : Nat} {s : List UInt8} (h : s.length ≤ 240) : (pageB kind id next s).length = 256 := by
  simp [pageB, bodyB_len h, leb_length]

/-- What may be sealed; what Seal tells. -/
def SealOK (id kind next : Int) : Prop := 0 ≤ id ∧ id < 4294967296 ∧ 0 ≤ next ∧ next < 4294967296 ∧ 1 ≤ kind ∧ kind < 256
instance (id kind next : Int) : Decidable (SealOK id kind next) := by unfold SealOK; infer_instance
def sealE (id kind next : Int) (n : Nat) : Int := if SealOK id kind next then (if n ≤ 240 then 0 else 2) else 1
def sealB (id kind next : Int) (s : List UInt8) : List UInt8 := if SealOK id kind next ∧ s.length ≤ 240 then pageB kind.toNat id.toNat next.toNat s else []

/-- A number of so many bytes from a place on. -/
def fld (l : List UInt8) (i n : Nat) : Nat := unleb ((l.drop i).take n)
theorem fld_lt (l : List UInt8) (i n : Nat) : fld l i n < 2 ^ (8 * n) := by
  refine Nat.lt_of_lt_of_le (unleb_lt _) (Nat.pow_le_pow_right (by decide) ?_)
  simp
  omega

/-- What stands behind the body, and what Open tells. -/
def tailB (l : List UInt8) : List UInt8 := (l.take 252).drop (11 + fld l 9 2)
def zeroB (l : List UInt8) : Bool := l.all fun c => c == 0
def openE (id : Int) (l : List UInt8) : Int :=
  if l.length ≠ 256 then 5 else if fld l 252 4 ≠ crcB (l.take 252) then 6 else if (fld l 1 4 : Int) ≠ id ∨ fld l 0 1 = 0 ∨ 240 < fld l 9 2 then 4 else if zeroB (tailB l) = true then 0 else 4
def openK (id : Int) (l : List UInt8) : Nat := if openE id l = 0 then fld l 0 1 else 0
def openN (id : Int) (l : List UInt8) : Nat := if openE id l = 0 then fld l 5 4 else 0
def openS (id : Int) (l : List UInt8) : List UInt8 := if openE id l = 0 then (l.drop 11).take (fld l 9 2) else []
def pageV (kind next : Int) (s : ByteArray) : Value := .agg #[.int .i64 kind, .int .i64 next, .string s]
def openV (id : Int) (l : List UInt8) : Value := .tuple #[.agg #[.int .i64 (openK id l), .int .i64 (openN id l), .string ⟨(openS id l).toArray⟩], .int .i64 (openE id l)]

theorem open_short {id : Int} {l : List UInt8} (h : l.length ≠ 256) : openE id l = 5 := by rw [openE, if_pos h]
theorem open_sum {id : Int} {l : List UInt8} (h : l.length = 256) (h1 : fld l 252 4 ≠ crcB (l.take 252)) : openE id l = 6 := by rw [openE, if_neg (by omega), if_pos h1]
theorem open_form {id : Int} {l : List UInt8} (h : l.length = 256) (h1 : fld l 252 4 = crcB (l.take 252)) (h2 : (fld l 1 4 : Int) ≠ id ∨ fld l 0 1 = 0 ∨ 240 < fld l 9 2) : openE id l = 4 := by
  rw [openE, if_neg (by omega), if_neg (by omega), if_pos h2]
theorem open_tail {id : Int} {l : List UInt8} (h : l.length = 256) (h1 : fld l 252 4 = crcB (l.take 252)) (h2 : ¬ ((fld l 1 4 : Int) ≠ id ∨ fld l 0 1 = 0 ∨ 240 < fld l 9 2)) (h3 : zeroB (tailB l) = false) : openE id l = 4 := by
  rw [openE, if_neg (by omega), if_neg (by omega), if_neg h2, if_neg (by simp [h3])]
theorem open_ok {id : Int} {l : List UInt8} (h : l.length = 256) (h1 : fld l 252 4 = crcB (l.take 252)) (h2 : ¬ ((fld l 1 4 : Int) ≠ id ∨ fld l 0 1 = 0 ∨ 240 < fld l 9 2)) (h3 : zeroB (tailB l) = true) : openE id l = 0 := by
  rw [openE, if_neg (by omega), if_neg (by omega), if_neg h2, if_pos h3]
theorem openV_bad {id : Int} {l : List UInt8} {e : Int} (h : openE id l = e) (he : e ≠ 0) : openV id l = .tuple #[.agg #[.int .i64 0, .int .i64 0, .string ⟨#[]⟩], .int .i64 e] := by
  unfold openV openK openN openS
  rw [h, if_neg he, if_neg he, if_neg he]
  rfl
theorem openV_ok {id : Int} {l : List UInt8} (h : openE id l = 0) : openV id l = .tuple #[.agg #[.int .i64 (fld l 0 1), .int .i64 (fld l 5 4), .string ⟨((l.drop 11).take (fld l 9 2)).toArray⟩], .int .i64 0] := by
  unfold openV openK openN openS
  rw [h, if_pos rfl, if_pos rfl, if_pos rfl]

/-! ### What is sealed is opened as it was -/
theorem drop_left {α : Type} (a b : List α) {n : Nat} (h : a.length = n) : (a ++ b).drop n = b := by rw [← h, List.drop_left]
theorem take_left {α : Type} (a b : List α) {n : Nat} (h : a.length = n) : (a ++ b).take n = a := by rw [← h, List.take_left]

section
variable {kind id next : Nat} {s : List UInt8}
theorem page_take (h : s.length ≤ 240) : (pageB kind id next s).take 252 = bodyB kind id next s := take_left _ _ (bodyB_len h)
theorem page_sum (h : s.length ≤ 240) : fld (pageB kind id next s) 252 4 = crcB ((pageB kind id next s).take 252) := by
  rw [page_take h, fld, pageB, drop_left _ _ (bodyB_len h), List.take_of_length_le (by rw [leb_length]; omega), unleb_leb]
  exact crcB_lt _
theorem page_shape : pageB kind id next s = leb 1 kind ++ (leb 4 id ++ (leb 4 next ++ (leb 2 s.length ++ (s ++ (List.replicate (241 - s.length) 0 ++ leb 4 (crcB (bodyB kind id next s))))))) := by
  simp only [pageB, bodyB, headB, List.append_assoc]
theorem page_kind (hk : kind < 256) : fld (pageB kind id next s) 0 1 = kind := by
  rw [page_shape, fld, List.drop_zero, take_left _ _ (leb_length 1 kind), unleb_leb _ _ hk]
theorem page_id (hi : id < 4294967296) : fld (pageB kind id next s) 1 4 = id := by
  rw [page_shape, fld, drop_left _ _ (leb_length 1 kind), take_left _ _ (leb_length 4 id), unleb_leb _ _ hi]
theorem page_next (hn : next < 4294967296) : fld (pageB kind id next s) 5 4 = next := by
  rw [page_shape, fld, show 5 = 1 + 4 from rfl, ← List.drop_drop, drop_left _ _ (leb_length 1 kind), drop_left _ _ (leb_length 4 id), take_left _ _ (leb_length 4 next), unleb_leb _ _ hn]
theorem page_size (h : s.length ≤ 240) : fld (pageB kind id next s) 9 2 = s.length := by
  rw [page_shape, fld, show 9 = 1 + 4 + 4 from rfl, ← List.drop_drop, ← List.drop_drop, drop_left _ _ (leb_length 1 kind), drop_left _ _ (leb_length 4 id), drop_left _ _ (leb_length 4 next), take_left _ _ (leb_length 2 _), unleb_leb _ _ (by omega)]
theorem page_body : (pageB kind id next s).drop 11 = s ++ (List.replicate (241 - s.length) 0 ++ leb 4 (crcB (bodyB kind id next s))) := by
  rw [page_shape, show 11 = 1 + 4 + 4 + 2 from rfl, ← List.drop_drop, ← List.drop_drop, ← List.drop_drop, drop_left _ _ (leb_length 1 kind), drop_left _ _ (leb_length 4 id), drop_left _ _ (leb_length 4 next), drop_left _ _ (leb_length 2 _)]
theorem page_tail (h : s.length ≤ 240) : zeroB (tailB (pageB kind id next s)) = true := by
  rw [tailB, page_size h, page_take h, bodyB, drop_left _ _ (by simp [headB_len]), zeroB, List.all_eq_true]
  intro x hx
  rw [List.eq_of_mem_replicate hx]
  rfl
theorem page_open (hk0 : 0 < kind) (hk : kind < 256) (hi : id < 4294967296) (hn : next < 4294967296) (h : s.length ≤ 240) :
    openV (id : Int) (pageB kind id next s) = .tuple #[.agg #[.int .i64 kind, .int .i64 next, .string ⟨s.toArray⟩], .int .i64 0] := by
  have hs := page_size (kind := kind) (id := id) (next := next) h
  rw [openV_ok (open_ok (pageB_len h) (page_sum h) (by rw [page_id hi, page_kind hk, hs]; omega) (page_tail h)), page_kind hk, page_next hn, hs, page_body, List.take_left]
theorem page_other (hi : id < 4294967296) (h : s.length ≤ 240) (j : Int) (hj : j ≠ id) : openE j (pageB kind id next s) = 4 :=
  open_form (pageB_len h) (page_sum h) (.inl (by rw [page_id hi]; exact fun e => hj e.symm))
/-- A page of which one byte is changed. -/
theorem page_change (h : s.length ≤ 240) (j : Int) (i : Nat) (c d : UInt8) (hi : (pageB kind id next s)[i]? = some c) (hcd : c ≠ d) : openE j ((pageB kind id next s).set i d) = 6 := by
  have hl := pageB_len (kind := kind) (id := id) (next := next) h
  have hlt : i < 256 := by rw [← hl]; exact (List.getElem?_eq_some_iff.1 hi).1
  refine open_sum (by rw [List.length_set]; exact hl) ?_
  have hsum := page_sum (kind := kind) (id := id) (next := next) h
  generalize pageB kind id next s = l at *
  by_cases hb : i < 252
  · have e1 : fld (l.set i d) 252 4 = fld l 252 4 := by rw [fld, fld, List.drop_set_of_lt hb]
    have e2 : (l.set i d).take 252 = (l.take 252).set i d := List.take_set
    rw [e1, e2, hsum]
    refine fun e => crcB_change (l.take 252) i c d ?_ hcd e.symm
    rw [List.getElem?_take, if_pos hb, hi]
  · have e1 : (l.set i d).take 252 = l.take 252 := by rw [List.take_set, List.set_eq_of_length_le (by simp; omega)]
    have e2 : fld (l.set i d) 252 4 ≠ fld l 252 4 := by
      intro e
      have e3 : ((l.set i d).drop 252).take 4 = (l.drop 252).take 4 := unleb_inj (by simp) e
      have e4 := congrArg (fun q => q[i - 252]?) e3
      simp only [List.getElem?_take, if_pos (show i - 252 < 4 by omega), List.getElem?_drop, show 252 + (i - 252) = i by omega] at e4
      rw [hi, List.getElem?_set_self (by omega)] at e4
      exact hcd (Option.some.inj e4).symm
    rw [e1, ← hsum]
    exact e2
end
end Go.Proofs.YthcpjpebahiikaaDoor

namespace Go.Proofs.YthcpjpebahiikaaDoor
open Go.RowKit Go.Lib

/-- The i-th number of a meta's body. -/
def six (l : List UInt8) (i : Nat) : Nat := fld l (6 * i) 6
theorem six_lt (l : List UInt8) (i : Nat) : six l i < 281474976710656 := fld_lt l (6 * i) 6
def Fits6 (v : Int) : Prop := 0 ≤ v ∧ v < 281474976710656
instance (v : Int) : Decidable (Fits6 v) := by unfold Fits6; infer_instance
def MetaOK (t r f p : Int) : Prop := Fits6 t ∧ Fits6 r ∧ Fits6 f ∧ Fits6 p
instance (t r f p : Int) : Decidable (MetaOK t r f p) := by unfold MetaOK; infer_instance
def mbody (t r f p : Nat) : List UInt8 := leb 6 t ++ (leb 6 r ++ (leb 6 f ++ leb 6 p))
def mpage (t r f p : Nat) : List UInt8 := pageB 1 (t % 2) 0 (mbody t r f p)
def putE (t r f p : Int) : Int := if MetaOK t r f p then 0 else 1
def putB (t r f p : Int) : List UInt8 := if MetaOK t r f p then mpage t.toNat r.toNat f.toNat p.toNat else []
def metaV (t r f p : Int) : Value := .agg #[.int .i64 t, .int .i64 r, .int .i64 f, .int .i64 p]

/-- What Get takes, and what it tells. -/
def GetOK (g : Int) (l : List UInt8) : Prop := openE g l = 0 ∧ openK g l = 1 ∧ openN g l = 0 ∧ (openS g l).length = 24 ∧ (six (openS g l) 0 : Int) % 2 = g
instance (g : Int) (l : List UInt8) : Decidable (GetOK g l) := by unfold GetOK; infer_instance
def getE (g : Int) (l : List UInt8) : Int := if openE g l ≠ 0 then openE g l else if GetOK g l then 0 else 4
def getN (g : Int) (l : List UInt8) (i : Nat) : Int := if GetOK g l then six (openS g l) i else 0
def getV (g : Int) (l : List UInt8) : Value := metaV (getN g l 0) (getN g l 1) (getN g l 2) (getN g l 3)

theorem mbody_len (t r f p : Nat) : (mbody t r f p).length = 24 := by simp [mbody, leb_length]
theorem mpage_len (t r f p : Nat) : (mpage t r f p).length = 256 := pageB_len (by rw [mbody_len]; omega)
theorem putB_len {t r f p : Int} (h : MetaOK t r f p) : (putB t r f p).length = 256 := by rw [putB, if_pos h, mpage_len]

theorem fld_leb (a b : List UInt8) (n i v : Nat) (hi : a.length = i) (hv : v < 2 ^ (8 * n)) : fld (a ++ (leb n v ++ b)) i n = v := by
  unfold fld
  rw [drop_left _ _ hi, take_left _ _ (leb_length n v), unleb_leb n v hv]
theorem mbody_six {t r f p : Nat} (ht : t < 281474976710656) (hr : r < 281474976710656) (hf : f < 281474976710656) (hp : p < 281474976710656) :
    six (mbody t r f p) 0 = t ∧ six (mbody t r f p) 1 = r ∧ six (mbody t r f p) 2 = f ∧ six (mbody t r f p) 3 = p := by
  refine ⟨?_, ?_, ?_, ?_⟩
  · exact fld_leb [] _ 6 0 t rfl ht
  · exact fld_leb (leb 6 t) _ 6 6 r (leb_length 6 t) hr
  · have := fld_leb (leb 6 t ++ leb 6 r) (leb 6 p) 6 12 f (by simp [leb_length]) hf
    simpa [six, mbody] using this
  · have := fld_leb (leb 6 t ++ leb 6 r ++ leb 6 f) [] 6 18 p (by simp [leb_length]) hp
    simpa [six, mbody] using this

theorem mpage_open (t r f p : Nat) : openE ((t % 2 : Nat) : Int) (mpage t r f p) = 0 ∧ openK ((t % 2 : Nat) : Int) (mpage t r f p) = 1 ∧ openN ((t % 2 : Nat) : Int) (mpage t r f p) = 0 ∧ openS ((t % 2 : Nat) : Int) (mpage t r f p) = mbody t r f p := by
  have hl : (mbody t r f p).length ≤ 240 := by rw [mbody_len]; omega
  have hi : t % 2 < 4294967296 := by omega
  have h1 : openE ((t % 2 : Nat) : Int) (mpage t r f p) = 0 := open_ok (pageB_len hl) (page_sum hl) (by unfold mpage; rw [page_id hi, page_kind (by omega), page_size hl]; omega) (page_tail hl)
  refine ⟨h1, ?_, ?_, ?_⟩
  · rw [openK, if_pos h1]; unfold mpage; exact page_kind (by omega)
  · rw [openN, if_pos h1]; unfold mpage; exact page_next (by omega)
  · rw [openS, if_pos h1, mpage, page_size hl, page_body, List.take_left]
theorem mpage_get {t r f p : Nat} (ht : t < 281474976710656) : GetOK ((t % 2 : Nat) : Int) (mpage t r f p) := by
  obtain ⟨h1, h2, h3, h4⟩ := mpage_open t r f p
  refine ⟨h1, h2, h3, by rw [h4, mbody_len], ?_⟩
  rw [h4, show six (mbody t r f p) 0 = t from fld_leb [] _ 6 0 t rfl ht]
  omega
theorem put_get {t r f p : Int} (h : MetaOK t r f p) : getE (t % 2) (putB t r f p) = 0 ∧ getV (t % 2) (putB t r f p) = metaV t r f p ∧ getN (t % 2) (putB t r f p) 0 = t := by
  obtain ⟨⟨ht0, ht⟩, ⟨hr0, hr⟩, ⟨hf0, hf⟩, ⟨hp0, hp⟩⟩ := h
  obtain ⟨t, rfl⟩ := Int.eq_ofNat_of_zero_le ht0
  obtain ⟨r, rfl⟩ := Int.eq_ofNat_of_zero_le hr0
  obtain ⟨f, rfl⟩ := Int.eq_ofNat_of_zero_le hf0
  obtain ⟨p, rfl⟩ := Int.eq_ofNat_of_zero_le hp0
  have hok : MetaOK t r f p := ⟨⟨ht0, ht⟩, ⟨hr0, hr⟩, ⟨hf0, hf⟩, ⟨hp0, hp⟩⟩
  have e2 : ((t : Int) % 2) = ((t % 2 : Nat) : Int) := by omega
  have hg : GetOK ((t % 2 : Nat) : Int) (mpage t r f p) := mpage_get (by omega)
  obtain ⟨h1, h2, h3, h4⟩ := mpage_open t r f p
  obtain ⟨s0, s1, s2, s3⟩ := mbody_six (t := t) (r := r) (f := f) (p := p) (by omega) (by omega) (by omega) (by omega)
  rw [putB, if_pos hok, e2]
  simp only [Int.toNat_natCast]
  refine ⟨?_, ?_, ?_⟩
  · rw [getE, if_neg (fun h => h h1), if_pos hg]
  · unfold getV getN
    rw [if_pos hg, if_pos hg, if_pos hg, if_pos hg, h4, s0, s1, s2, s3]
  · rw [getN, if_pos hg, h4, s0]

theorem get_bad {g : Int} {l : List UInt8} (h : ¬ GetOK g l) : getV g l = metaV 0 0 0 0 ∧ getE g l ≠ 0 := by
  unfold getV getN getE
  refine ⟨by rw [if_neg h, if_neg h, if_neg h, if_neg h], ?_⟩
  by_cases h1 : openE g l = 0
  · rw [if_neg (fun h => h h1), if_neg h]; omega
  · rw [if_pos h1]; exact h1
theorem getE_ok {g : Int} {l : List UInt8} (h : GetOK g l) : getE g l = 0 := by unfold getE; rw [if_neg (fun h2 => h2 h.1), if_pos h]
end Go.Proofs.YthcpjpebahiikaaDoor
