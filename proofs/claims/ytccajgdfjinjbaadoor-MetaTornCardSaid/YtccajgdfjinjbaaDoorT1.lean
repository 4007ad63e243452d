/-
  A meta's page as lists of bytes: what Put tells, what Get tells, and that the one undoes the other.
-/
import Derived.Test.YtccajgdfjinjbaaDoorS1
namespace Go.Proofs.YtccajgdfjinjbaaDoor
open Go.RowKit Go.Lib

/-- The i-th number of a meta's body. -/
def six (l : List UInt8) (i : Nat) : Nat := fld l (6 * i) 6
theorem six_lt (l : List UInt8) (i : Nat) : six l i < 281474976710656 := fld_lt l (6 * i) 6
def Fits6 (v : Int) : Prop := 0 ≤ v ∧ v < 281474976710656
instance (v : Int) : Decidable (Fits6 v) := by unfold Fits6; infer_instance
def MetaOK (t r f p : Int) : Prop := Fits6 t ∧ Fits6 r ∧ Fits6 f ∧ Fits6 p
instance (t r f p : Int) : Decidable (MetaOK t r f p) := by unfold MetaOK; infer_instance
def mbody (t r f p : Nat) : List UInt8 := leb 6 t ++ (leb 6 r ++ (leb 6 f ++ leb 6 p))
def mpage (t r f p : Nat) : List UInt8 := pageB 1 (t % 2) 0 (mbody t r f p)
def putE (t r f p : Int) : Int := if MetaOK t r f p then 0 else 1
def putB (t r f p : Int) : List UInt8 := if MetaOK t r f p then mpage t.toNat r.toNat f.toNat p.toNat else []
def metaV (t r f p : Int) : Value := .agg #[.int .i64 t, .int .i64 r, .int .i64 f, .int .i64 p]

/-- What Get takes, and what it tells. -/
def GetOK (g : Int) (l : List UInt8) : Prop := openE g l = 0 ∧ openK g l = 1 ∧ openN g l = 0 ∧ (openS g l).length = 24 ∧ (six (openS g l) 0 : Int) % 2 = g
instance (g : Int) (l : List UInt8) : Decidable (GetOK g l) := by unfold GetOK; infer_instance
def getE (g : Int) (l : List UInt8) : Int := if openE g l ≠ 0 then openE g l else if GetOK g l then 0 else 4
def getN (g : Int) (l : List UInt8) (i : Nat) : Int := if GetOK g l then six (openS g l) i else 0
def getV (g : Int) (l : List UInt8) : Value := metaV (getN g l 0) (getN g l 1) (getN g l 2) (getN g l 3)

theorem mbody_len (t r f p : Nat) : (mbody t r f p).length = 24 := by simp [mbody, leb_length]
theorem mpage_len (t r f p : Nat) : (mpage t r f p).length = 256 := pageB_len (by rw [mbody_len]; omega)
theorem putB_len {t r f p : Int} (h : MetaOK t r f p) : (putB t r f p).length = 256 := by rw [putB, if_pos h, mpage_len]

theorem fld_leb (a b : List UInt8) (n i v : Nat) (hi : a.length = i) (hv : v < 2 ^ (8 * n)) : fld (a ++ (leb n v ++ b)) i n = v := by
  unfold fld
  rw [drop_left _ _ hi, take_left _ _ (leb_length n v), unleb_leb n v hv]
theorem mbody_six {t r f p : Nat} (ht : t < 281474976710656) (hr : r < 281474976710656) (hf : f < 281474976710656) (hp : p < 281474976710656) :
    six (mbody t r f p) 0 = t ∧ six (mbody t r f p) 1 = r ∧ six (mbody t r f p) 2 = f ∧ six (mbody t r f p) 3 = p := by
  refine ⟨?_, ?_, ?_, ?_⟩
  · exact fld_leb [] _ 6 0 t rfl ht
  · exact fld_leb (leb 6 t) _ 6 6 r (leb_length 6 t) hr
  · have := fld_leb (leb 6 t ++ leb 6 r) (leb 6 p) 6 12 f (by simp [leb_length]) hf
    simpa [six, mbody] using this
  · have := fld_leb (leb 6 t ++ leb 6 r ++ leb 6 f) [] 6 18 p (by simp [leb_length]) hp
    simpa [six, mbody] using this

theorem mpage_open (t r f p : Nat) : openE ((t % 2 : Nat) : Int) (mpage t r f p) = 0 ∧ openK ((t % 2 : Nat) : Int) (mpage t r f p) = 1 ∧ openN ((t % 2 : Nat) : Int) (mpage t r f p) = 0 ∧ openS ((t % 2 : Nat) : Int) (mpage t r f p) = mbody t r f p := by
  have hl : (mbody t r f p).length ≤ 240 := by rw [mbody_len]; omega
  have hi : t % 2 < 4294967296 := by omega
  have h1 : openE ((t % 2 : Nat) : Int) (mpage t r f p) = 0 := open_ok (pageB_len hl) (page_sum hl) (by unfold mpage; rw [page_id hi, page_kind (by omega), page_size hl]; omega) (page_tail hl)
  refine ⟨h1, ?_, ?_, ?_⟩
  · rw [openK, if_pos h1]; unfold mpage; exact page_kind (by omega)
  · rw [openN, if_pos h1]; unfold mpage; exact page_next (by omega)
  · rw [openS, if_pos h1, mpage, page_size hl, page_body, List.take_left]
theorem mpage_get {t r f p : Nat} (ht : t < 281474976710656) : GetOK ((t % 2 : Nat) : Int) (mpage t r f p) := by
  obtain ⟨h1, h2, h3, h4⟩ := mpage_open t r f p
  refine ⟨h1, h2, h3, by rw [h4, mbody_len], ?_⟩
  rw [h4, show six (mbody t r f p) 0 = t from fld_leb [] _ 6 0 t rfl ht]
  omega
theorem put_get {t r f p : Int} (h : MetaOK t r f p) : getE (t % 2) (putB t r f p) = 0 ∧ getV (t % 2) (putB t r f p) = metaV t r f p ∧ getN (t % 2) (putB t r f p) 0 = t := by
  obtain ⟨⟨ht0, ht⟩, ⟨hr0, hr⟩, ⟨hf0, hf⟩, ⟨hp0, hp⟩⟩ := h
  obtain ⟨t, rfl⟩ := Int.eq_ofNat_of_zero_le ht0
  obtain ⟨r, rfl⟩ := Int.eq_ofNat_of_zero_le hr0
  obtain ⟨f, rfl⟩ := Int.eq_ofNat_of_zero_le hf0
  obtain ⟨p, rfl⟩ := Int.eq_ofNat_of_zero_le hp0
  have hok : MetaOK t r f p := ⟨⟨ht0, ht⟩, ⟨hr0, hr⟩, ⟨hf0, hf⟩, ⟨hp0, hp⟩⟩
  have e2 : ((t : Int) % 2) = ((t % 2 : Nat) : Int) := by omega
  have hg : GetOK ((t % 2 : Nat) : Int) (mpage t r f p) := mpage_get (by omega)
  obtain ⟨h1, h2, h3, h4⟩ := mpage_open t r f p
  obtain ⟨s0, s1, s2, s3⟩ := mbody_six (t := t) (r := r) (f := f) (p := p) (by omega) (by omega) (by omega) (by omega)
  rw [putB, if_pos hok, e2]
  simp only [Int.toNat_natCast]
  refine ⟨?_, ?_, ?_⟩
  · rw [getE, if_neg (fun h => h h1), if_pos hg]
  · unfold getV getN
    rw [if_pos hg, if_pos hg, if_pos hg, if_pos hg, h4, s0, s1, s2, s3]
  · rw [getN, if_pos hg, h4, s0]

theorem get_bad {g : Int} {l : List UInt8} (h : ¬ GetOK g l) : getV g l = metaV 0 0 0 0 ∧ getE g l ≠ 0 := by
  unfold getV getN getE
  refine ⟨by rw [if_neg h, if_neg h, if_neg h, if_neg h], ?_⟩
  by_cases h1 : openE g l = 0
  · rw [if_neg (fun h => h h1), if_neg h]; omega
  · rw [if_pos h1]; exact h1
theorem getE_ok {g : Int} {l : List UInt8} (h : GetOK g l) : getE g l = 0 := by unfold getE; rw [if_neg (fun h2 => h2 h.1), if_pos h]
end Go.Proofs.YtccajgdfjinjbaaDoor
