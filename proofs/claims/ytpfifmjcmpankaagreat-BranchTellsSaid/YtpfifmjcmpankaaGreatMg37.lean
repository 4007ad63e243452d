/-
  Walks over the document's own answers to chapter 9: a child's bytes, BranchSize.
-/
import Derived.Test.YtpfifmjcmpankaaGreatMg18
import Derived.Test.YtpfifmjcmpankaaGreatMg20
import Derived.Test.YtpfifmjcmpankaaGreatMg32
import Derived.Test.YtpfifmjcmpankaaGreatMg36
namespace Go.Proofs.YtpfifmjcmpankaaGreat.BR
open Go.RowKit Go.Lib

/-- The bytes of a child, as a text. -/
def itemS (x : Chd) : ByteArray := ⟨(itemB x).toArray⟩
theorem itemS_size (x : Chd) : (itemS x).size = (itemB x).length := by simp [itemS, ByteArray.size]
theorem item_bytes (x : Chd) : itemS x = textS x.key ++ varS x.page := by
  apply ByteArray.ext
  apply Array.ext'
  simp [itemS, itemB, textS, varS]
/-- Children whose texts are of a size that sums bear. -/
def Chd.fair (x : Chd) : Prop := x.key.size ≤ 100000 ∧ IsInt x.page
theorem text_long {s : ByteArray} (h : s.size ≤ 100000) : (textS s).size ≤ 100010 := by
  have h10 := uvarint_length64 (zigzag_lt (x := (s.size : Int)) (by omega) (by omega))
  rw [textS_size]; unfold textB; rw [List.length_append]; have : s.data.toList.length = s.size := by simp
  omega
theorem var_long {n : Int} (h : IsInt n) : (varS n).size ≤ 10 := by
  have h10 := uvarint_length64 (zigzag_lt h.1 h.2)
  rw [varS_size]
  omega
theorem item_long {x : Chd} (h : x.fair) : (itemB x).length ≤ 1000000 := by
  rw [← itemS_size, item_bytes, ByteArray.size_append]
  have := text_long h.1
  have := var_long h.2
  omega

set_option maxRecDepth 100000 in
set_option maxHeartbeats 1000000 in
theorem refItem_any (x : Chd) (w : World) (hf : x.fair) : Calls Tryz.prog 118 #[iagg x] w fun e w' => e = .returned (.string (itemS x)) ∧ Below w.heap.size w w' := by
  obtain ⟨hk, hp⟩ := hf
  have ht := text_long hk
  have hv := var_long hp
  have HT := Lib.hid (fun W => (refText_any x.key W (by omega)).mono fun e w' ⟨h1, h2⟩ => (⟨h1, h2⟩ : e = Ending.returned (.string (textS x.key)) ∧ Below W.heap.size W w'))
  have HV := Lib.hid (fun W => (refVar_any x.page W hp).mono fun e w' ⟨h1, h2⟩ => (⟨h1, h2⟩ : e = Ending.returned (.string (varS x.page)) ∧ Below W.heap.size W w'))
  have hadd := add_any (textS x.key) (varS x.page) (by omega) (by omega)
  have hib := item_bytes x
  generalize textS x.key = S1 at *
  generalize varS x.page = S2 at *
  have HI := Lib.hid hib
  clear hib ht hv
  go_enter Tryz.func118, Tryz.ntmps118
  go_wp2_with fail
  obtain ⟨W0, hW0⟩ : ∃ W0, W0 = w.alloc (iobj x) := ⟨_, rfl⟩
  have hbx := held_box hW0
  have h0 : Below w.heap.size w W0 := by subst hW0; exact (Below.refl _ _).alloc (Nat.le_refl _) _
  obtain ⟨d0, d1⟩ := hbx W0 (Below.refl _ _)
  rw [← hW0]
  have HW := Lib.hid h0
  clear hW0 hbx h0
  have e0 := cell_gw d0
  have e1 := cell_gw d1
  refine wp_region_gw (by kernel_rfl) (by kernel_rfl) ?_
  repeat (refine wq_step (fun K hK => ?_); go_simp; first | (refine hK _ ?_; clear hK K) | (apply Exists.intro; refine ⟨fun _ => ?_, hK _ ?_⟩; (first | (go_at_call 130; ((with_reducible exact Calls.gw_of (HT.out _)))) | (go_at_call 132; ((with_reducible exact Calls.gw_of (HV.out _))))); clear hK K))
  refine wq_nil ?_
  intro w1 hw1
  replace hw1 := gw_to hw1
  clear e0 e1 d0 d1
  go_wp2
  go_ret
  exact ⟨by rw [HI.out]; rfl, HW.out.trans (hw1.mono HW.out.size)⟩

set_option maxRecDepth 100000 in
set_option maxHeartbeats 1000000 in
theorem refLeafSize_any (v : Value) (l : List Chd) (w : World) (hr : ReadsIt w w.heap.size v l) (hf : ∀ x ∈ l, x.fair) (hl : l.length ≤ 100000) :
    Calls Tryz.prog 41 #[v] w fun e w' => e = .returned (.int .i64 (sz l : Nat)) ∧ Below w.heap.size w w' := by
  obtain ⟨A, c, rfl, _, _, _, hc⟩ := hr
  go_enter Tryz.func41, Tryz.ntmps41
  go_wp2
  go_loopw [3, 4] (fun n i wr => ∃ k : Nat, k ≤ l.length ∧ i = .int .i64 k ∧ n = .int .i64 (sz (l.take k) : Nat) ∧ sz (l.take k) ≤ k * 1000000 ∧ Below w.heap.size w wr) (fun _ i _ => l.length - (RowKit.intOf i).toNat)
  case atStart => exact ⟨0, Nat.zero_le _, rfl, rfl, by simp [sz, leafB], Below.refl _ _⟩
  case round =>
    obtain ⟨k, hk, rfl, rfl, hsk, hbl⟩ := hrel
    have hbs := hbl.size
    by_cases hlt : k < l.length
    · obtain ⟨b, off, rfl, hbb, hcell⟩ := hc (by omega)
      obtain ⟨c0, c1⟩ := (hcell.below hbl hbb) k hlt
      have hx := hf l[k] (by simp)
      have HS : Hid (sz (l.take (k + 1)) = sz (l.take k) + (itemB l[k]).length) := Lib.hid (by rw [take_snoc1 l k hlt, sz_snoc])
      have hI := refItem_any l[k] wr hx
      have hIl := item_long hx
      generalize l[k] = x at *
      have hsz := itemS_size x
      generalize itemS x = S at *
      have HB := Lib.hid (And.intro hbl hsz)
      rw [← hsz] at hIl
      obtain ⟨T, hT⟩ : ∃ T, sz (l.take k) = T := ⟨_, rfl⟩
      rw [hT] at hsk ⊢
      have HT := Lib.hid hT
      clear hc hcell hbl hsz hT hx
      go_wp2_with fail
      refine hI.mono ?_
      rintro e w1 ⟨rfl, hb1⟩
      have hTb : T ≤ 100000000000 := by omega
      clear hI c0 c1
      go_wp2_with fail
      go_roundw
      case rel =>
        refine ⟨k + 1, by omega, by go_num, ?_, ?_, HB.out.1.trans (hb1.mono hbs)⟩
        · rw [HS.out, HT.out, ← HB.out.2]
          go_num
        · rw [HS.out, HT.out, ← HB.out.2]
          omega
      case measure => simp [RowKit.intOf]; omega
    · obtain rfl : k = l.length := by omega
      rw [List.take_length]
      go_wp2
      go_ret
      exact ⟨rfl, hbl⟩
end Go.Proofs.YtpfifmjcmpankaaGreat.BR
