/-
  Walks over package num: Var and Text, of lists; Bool.
-/
import Derived.Test.YtpfifmjcmpankaaGreatMg10
import Derived.Test.YtpfifmjcmpankaaGreatMg11
namespace Go.Proofs.YtpfifmjcmpankaaGreat
open Go.RowKit Go.Lib

/-- The bytes of numbers, and of texts. -/
def varsB (l : List Int) : List UInt8 := l.flatMap fun v => uvarint (zigzag v)
def textB (s : ByteArray) : List UInt8 := uvarint (zigzag s.size) ++ s.data.toList
def textsB (l : List ByteArray) : List UInt8 := l.flatMap textB


theorem varsB_snoc (l : List Int) (v : Int) : varsB (l ++ [v]) = varsB l ++ uvarint (zigzag v) := by simp [varsB]
theorem varsB_len (l : List Int) (h : ∀ v ∈ l, IsInt v) : (varsB l).length ≤ 10 * l.length := by
  induction l with
  | nil => simp [varsB]
  | cons a r ih =>
    have h1 := uvarint_length64 (zigzag_lt (h a (by simp)).1 (h a (by simp)).2)
    have h2 := ih (fun v hv => h v (by simp [hv]))
    simp only [varsB, List.flatMap_cons, List.length_append, List.length_cons] at *
    omega

set_option maxRecDepth 1000000 in
set_option maxHeartbeats 400000 in
theorem var_any (v : Value) (l : List Int) (w : World) (hr : Reads1 w w.heap.size v (l.map (Value.int .i64))) (hl : l.length ≤ 1099511627776) (hi : ∀ x ∈ l, IsInt x) :
    Calls Tryz.prog 54 #[v] w fun e w' => e = .returned (.string ⟨(varsB l).toArray⟩) ∧ Below w.heap.size w w' := by
  obtain ⟨A, c, rfl, hc⟩ := hr
  simp only [List.length_map] at hc ⊢
  go_enter Tryz.func54, Tryz.ntmps54
  go_wp2
  go_loopw [3, 8] (fun b i wr => ∃ k : Nat, k ≤ l.length ∧ i = .int .i64 k ∧ Row wr w.heap.size b (varsB (l.take k)) ∧ Below w.heap.size w wr) (fun _ i _ => l.length - (intOf i).toNat)
  case atStart => exact ⟨0, Nat.zero_le _, rfl, Row.nil_ _ _, Below.refl _ _⟩
  case round =>
    obtain ⟨k, hk, rfl, hrow, hbl⟩ := hrel
    have hbs := hbl.size
    by_cases hlt : k < l.length
    · obtain ⟨b, off, rfl, hbb, hcell⟩ := hc (by omega)
      have hck : wr.cell? ⟨b, off + k, none⟩ = some (.int .i64 l[k]) := (hbl.cell (p := ⟨b, off + k, none⟩) hbb).trans (hcell k _ (by simp [hlt]))
      have hik := hi l[k] (by simp)
      have hts := take_snoc1 l k hlt
      have hvl : (varsB (l.take k)).length ≤ 35184372088832 := by
        have := varsB_len (l.take k) (fun v hv => hi v (List.mem_of_mem_take hv))
        simp at this
        omega
      have HS : Hid (varsB (l.take (k + 1)) = varsB (l.take k) ++ uvarint (zigzag l[k])) := by show _ = _; rw [hts, varsB_snoc]
      generalize l[k] = x at *
      clear hts hi hc hcell
      go_wp2_with (go_at_call 129; refine (addVar_any w.heap.size _ _ x _ hik.1 hik.2 hrow hbs hvl).mono ?_; rintro e w' ⟨b', rfl, hrow', hbl'⟩)
      rw [← HS.out] at hrow'
      go_roundw
      case rel => exact ⟨k + 1, by omega, by go_num, hrow', hbl.trans hbl'⟩
      case measure => simp [intOf]; omega
    · have hkl : k = l.length := by omega
      have hs := row_string hrow
      go_wp2
      go_ret
      exact ⟨rfl, hbl⟩

theorem textsB_snoc (l : List ByteArray) (s : ByteArray) : textsB (l ++ [s]) = textsB l ++ textB s := by simp [textsB]

theorem textsB_len (l : List ByteArray) (h : ∀ s ∈ l, s.size ≤ 9223372036854775807) : (textsB l).length ≤ 10 * l.length + sizes l := by
  induction l with
  | nil => simp [textsB, sizes]
  | cons a r ih =>
    have h0 := h a (by simp)
    have h1 := uvarint_length64 (zigzag_lt (x := (a.size : Int)) (by omega) (by omega))
    have h2 := ih (fun v hv => h v (by simp [hv]))
    simp only [textsB, textB, sizes, List.flatMap_cons, List.length_append, List.length_cons, List.map_cons, List.sum_cons] at *
    have h3 : a.data.toList.length = a.size := by simp
    omega

set_option maxRecDepth 1000000 in
set_option maxHeartbeats 400000 in
theorem text_any (v : Value) (l : List ByteArray) (w : World) (hr : Reads1 w w.heap.size v (l.map Value.string)) (hl : l.length ≤ 1099511627776) (hsz : sizes l ≤ 1099511627776) :
    Calls Tryz.prog 51 #[v] w fun e w' => e = .returned (.string ⟨(textsB l).toArray⟩) ∧ Below w.heap.size w w' := by
  obtain ⟨A, c, rfl, hc⟩ := hr
  simp only [List.length_map] at hc ⊢
  go_enter Tryz.func51, Tryz.ntmps51
  go_wp2
  go_loopw [3, 8] (fun b i wr => ∃ k : Nat, k ≤ l.length ∧ i = .int .i64 k ∧ Row wr w.heap.size b (textsB (l.take k)) ∧ Below w.heap.size w wr) (fun _ i _ => l.length - (intOf i).toNat)
  case atStart => exact ⟨0, Nat.zero_le _, rfl, Row.nil_ _ _, Below.refl _ _⟩
  case round =>
    obtain ⟨k, hk, rfl, hrow, hbl⟩ := hrel
    have hbs := hbl.size
    by_cases hlt : k < l.length
    · obtain ⟨b, off, rfl, hbb, hcell⟩ := hc (by omega)
      have hck : wr.cell? ⟨b, off + k, none⟩ = some (.string l[k]) := (hbl.cell (p := ⟨b, off + k, none⟩) hbb).trans (hcell k _ (by simp [hlt]))
      have hsk := sizes_mem l l[k] (by simp)
      have hts := take_snoc1 l k hlt
      have hvl : (textsB (l.take k)).length ≤ 17592186044416 := by
        have h1 := textsB_len (l.take k) (fun v hv => by have := sizes_mem l v (List.mem_of_mem_take hv); omega)
        have h2 := sizes_take l k
        simp at h1
        omega
      have HS : Hid (textsB (l.take (k + 1)) = textsB (l.take k) ++ textB l[k]) := by show _ = _; rw [hts, textsB_snoc]
      generalize l[k] = x at *
      clear hts hc hcell
      have h1 := uvarint_length64 (zigzag_lt (x := (x.size : Int)) (by omega) (by omega))
      have hvl2 : (textsB (l.take k) ++ uvarint (zigzag (x.size : Int))).length ≤ 35184372088832 := by simp; omega
      go_wp2_with (first | (go_at_call 129; refine (addVar_any w.heap.size _ _ (x.size : Int) _ (by omega) (by omega) hrow hbs (by omega)).mono ?_; rintro e w' ⟨b', rfl, hrow', hbl'⟩; have hbs' := hbl'.size) | (at_builtin; refine append_str rfl _ _ rfl w.heap.size _ _ _ rfl (by assumption) x rfl hvl2 (by omega) (by omega) ?_; intro b2 w2 hrow2 hbl2))
      rw [List.append_assoc, ← textB, ← HS.out] at hrow2
      go_roundw
      case rel => exact ⟨k + 1, by omega, by go_num, hrow2, (hbl.trans hbl').trans hbl2⟩
      case measure => simp [intOf]; omega
    · have hkl : k = l.length := by omega
      have hs := row_string hrow
      go_wp2
      go_ret
      exact ⟨rfl, hbl⟩

set_option maxHeartbeats 400000 in
theorem bool_any (b : Bool) (w : World) : Calls Tryz.prog 52 #[.bool b] w fun e w' => e = .returned (.string ⟨#[if b then 1 else 0]⟩) ∧ w = w' := by
  cases b
  · go_enter Tryz.func52, Tryz.ntmps52
    go_wp2
    go_ret
    exact ⟨rfl, rfl⟩
  · go_enter Tryz.func52, Tryz.ntmps52
    go_wp2
    go_ret
    exact ⟨rfl, rfl⟩
end Go.Proofs.YtpfifmjcmpankaaGreat
