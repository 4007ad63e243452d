/-
  The body of some numbers: what the free pages lay.
-/
import Derived.Test.YtlalhinodmmgfaaGreatMg17
import Derived.Test.YtlalhinodmmgfaaGreatMg18
import Derived.Test.YtlalhinodmmgfaaGreatShelf3
namespace Go.Proofs.YtlalhinodmmgfaaGreat
open Go.RowKit Go.Lib

theorem bodyOf_snoc (l : List Int) (x : Int) : bodyOf (l ++ [x]) = bodyOf l ++ four x := by simp [bodyOf, bodyOn]
theorem bodyOf_size : ∀ l : List Int, (bodyOf l).data.toList.length = 4 * l.length := by
  intro l
  unfold bodyOf
  rw [bodyOn_list]
  induction l with
  | nil => rfl
  | cons x r ih =>
    simp only [List.flatMap_cons, List.length_append, List.length_cons, leb_length] at ih ⊢
    omega

theorem isB_below {B b : Nat} {bs : List Value} {w w' : World} (h : IsBuilder 118 5 B b bs w) (hb : Below w.heap.size w w') : IsBuilder 118 5 B b bs w' := by
  rcases h with ⟨h1, v, h2, h3, h4⟩ | ⟨h1, v, h2, h3, h4⟩
  · exact .inl ⟨h1, v, (hb.block b (lt_of_block h2)).trans h2, row_kept (F := []) h3 (Kept.of_below hb) (fun g _ hF => by simp at hF), h4⟩
  · exact .inr ⟨h1, v, (hb.block b (lt_of_block h2)).trans h2, row_kept (F := []) h3 (Kept.of_below hb) (fun g _ hF => by simp at hF), h4⟩

set_option maxRecDepth 100000 in
set_option maxHeartbeats 2000000 in
theorem lay_any {w : World} {v : Value} {l : List Int} (h : Reads1 w w.heap.size v (l.map (.int .i64))) (hl : l.length ≤ 100000) (hi : ∀ x ∈ l, IsInt x) :
    Calls Tryz.prog 28 #[v] w fun e w' => (((∀ x ∈ l, fits x) ∧ e = .returned (.tuple #[.string (bodyOf l), .int .i64 0])) ∨ ((¬ ∀ x ∈ l, fits x) ∧ e = .returned (.tuple #[.string ⟨#[]⟩, .int .i64 1]))) ∧ Below w.heap.size w w' := by
  obtain ⟨A, c, rfl, hc⟩ := h
  simp only [List.length_map] at hc ⊢
  obtain ⟨n, hn⟩ : ∃ n, l.length = n := ⟨_, rfl⟩
  rw [hn] at hl hc ⊢
  have hstart : IsBuilder 118 5 w.heap.size w.heap.size (byteCells (bodyOf (l.take 0)).data.toList) (w.alloc (.cells #[.pointer none, .slice none 0 0] 118)) :=
    .inl ⟨Nat.le_refl _, .slice none 0 0, heap_alloc_new _ _, World.ownsRow_nil _ _ _ _, by simp [Value.ownBlock]⟩
  have HL := Lib.hid (And.intro hc (And.intro hn (And.intro hi hstart)))
  clear hc hn hi hstart
  go_enter Tryz.func28, Tryz.ntmps28
  go_wp2_with fail
  obtain ⟨B, hB⟩ : ∃ B, w.heap.size = B := ⟨_, rfl⟩
  have HBB := Lib.hid hB
  rw [hB]
  clear hB
  go_loopg [11] n (fun g iv wr => ∃ i : Nat, iv = .int .i64 i ∧ i + g = n ∧ (∀ x ∈ l.take i, fits x) ∧ IsBuilder 118 5 B B (byteCells (bodyOf (l.take i)).data.toList) wr ∧ Below B w wr)
  case atStart =>
    refine ⟨0, rfl, by omega, by simp, ?_, ?_⟩
    · rw [← HBB.out]; exact HL.out.2.2.2
    · rw [← HBB.out]; exact (Below.refl _ _).alloc (Nat.le_refl _) _
  case round =>
    obtain ⟨i, rfl, hig, hall, hbd, hbl⟩ := hrel
    obtain ⟨hc, hn, hi, _⟩ := HL.out
    rw [HBB.out] at hc
    by_cases hlt : i < n
    · obtain ⟨b, off, rfl, hbb, hcell⟩ := hc (by omega)
      have hil : i < l.length := by omega
      have hq : wr.cell? ⟨b, off + i, none⟩ = some (.int .i64 l[i]) := (hbl.cell (p := ⟨b, off + i, none⟩) hbb).trans (hcell i _ (by simp [hil]))
      have htk : l.take (i + 1) = l.take i ++ [l[i]] := List.take_succ_eq_append_getElem hil
      have hmem : l[i] ∈ l := List.getElem_mem hil
      have hx := hi _ hmem
      have htl : (l.take i).length = i := by rw [List.length_take]; omega
      generalize l[i] = x at *
      have hfx := fix_any x 4 wr hx.2
      have k1 : (i : Int) < n := by omega
      have k0 : (0 : Int) ≤ i := by omega
      have hiI := Lib.hid hig
      by_cases hfit : fits x
      · rw [(fixB_four hfit).1, (fixB_four hfit).2] at hfx
        have hs4 := four_size x
        have hlen := bodyOf_size (l.take i)
        rw [htl] at hlen
        have HR := Lib.hid (And.intro hall (And.intro htk (And.intro hbl (And.intro hfit (And.intro hbd (And.intro hlen hs4))))))
        clear hc hn hi hbb hcell hall htk hmem hbl hig hx hfit hbd htl hlen hs4
        go_wp2_with fail
        refine hfx.mono ?_
        rintro e w1 ⟨rfl, hb1⟩
        obtain ⟨hall, htk, hbl, hfit, hbd, hlen, hs4⟩ := HR.out
        have hbB := hbl.size
        have hwr := bwrite_any (four x) (isB_below hbd hb1) (by rw [hlen]; omega) (by rw [hs4]; omega)
        have hbw : B ≤ wr.heap.size := by
          rcases hbd with h | h
          · exact Nat.le_of_lt h.lt
          · exact Nat.le_of_lt h.lt
        have HB1 := Lib.hid (hbl.trans (hb1.mono hbw))
        clear hall htk hbl hfit hbd hlen hs4 hbB hb1 hfx hbw
        obtain ⟨y, hy⟩ : ∃ y, four x = y := ⟨_, rfl⟩
        have HY := Lib.hid hy
        rw [hy] at hwr
        rw [hy]
        clear hy
        go_wp2_with fail
        refine hwr.mono ?_
        rintro e w2 ⟨rfl, hbd, hb2⟩
        have H2 := Lib.hid (And.intro hbd hb2)
        clear hbd hb2 hwr
        go_wp2_with fail
        go_roundg (n - (i + 1))
        case measure => have := hiI.out; omega
        case rel =>
          obtain ⟨hall, htk, hbl, hfit, hbd, hlen, hs4⟩ := HR.out
          refine ⟨i + 1, by go_num, by omega, ?_, ?_, HB1.out.trans H2.out.2⟩
          · intro z hz
            rw [htk] at hz
            rcases List.mem_append.1 hz with h | h
            · exact hall z h
            · obtain rfl : z = x := by simpa using h
              exact hfit
          · rw [htk, bodyOf_snoc, ByteArray.data_append, Array.toList_append, HY.out]
            exact .inr H2.out.1
      · rw [fixE_four hfit] at hfx
        have hno : ¬ ∀ x ∈ l, fits x := fun hh => hfit (hh x hmem)
        generalize (⟨(fixB x 4).toArray⟩ : ByteArray) = y at *
        have hbw : B ≤ wr.heap.size := by
          rcases hbd with h | h
          · exact Nat.le_of_lt h.lt
          · exact Nat.le_of_lt h.lt
        have HR := Lib.hid (And.intro hno (And.intro hbl hbw))
        clear hc hn hi hbb hcell hall htk hmem hig hx hfit hno hbd htl hbw hbl
        go_wp2_with fail
        refine hfx.mono ?_
        rintro e w1 ⟨rfl, hb1⟩
        have H1 := Lib.hid (HR.out.2.1.trans (hb1.mono HR.out.2.2))
        clear hb1 hfx
        go_wp2_with fail
        go_ret2
        exact ⟨.inr ⟨HR.out.1, rfl⟩, by rw [HBB.out]; exact H1.out⟩
    · obtain rfl : i = n := by omega
      rw [← hn, List.take_length] at hall hbd
      have hbw : B ≤ wr.heap.size := by
        rcases hbd with h | h
        · exact Nat.le_of_lt h.lt
        · exact Nat.le_of_lt h.lt
      have hst := Tryz.Builder_String_any B B _ wr hbd hbw
      have he : (⟨(bodyOf l).data.toList.toArray⟩ : ByteArray) = bodyOf l := by simp
      rw [he] at hst
      have HR := Lib.hid (And.intro hall hbl)
      clear hc hn hi hall hbd hbl hbw he
      go_wp2_with fail
      refine hst.mono ?_
      rintro e w1 ⟨rfl, hb1⟩
      have H1 := Lib.hid (HR.out.2.trans hb1)
      clear hb1 hst
      go_wp2_with fail
      go_ret2
      exact ⟨.inl ⟨HR.out.1, rfl⟩, by rw [HBB.out]; exact H1.out⟩
end Go.Proofs.YtlalhinodmmgfaaGreat
