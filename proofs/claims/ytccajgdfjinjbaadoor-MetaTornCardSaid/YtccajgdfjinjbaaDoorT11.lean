/-
  The statements of chapter 5: a first call whose answer the document fixes.
-/
import Derived.Test.YtccajgdfjinjbaaDoorT10
namespace Go.Proofs.YtccajgdfjinjbaaDoor
open Go.RowKit Go.Lib

theorem filled_get (g : Int) : ¬ GetOK g (filledB 120 0).data.toList := by
  rintro ⟨h1, h2, -⟩
  rw [openK, if_pos h1] at h2
  have h3 : fld (filledB 120 0).data.toList 0 1 ≠ 1 := by decide +kernel
  omega

set_option maxRecDepth 100000 in
set_option maxHeartbeats 2000000 in
theorem alive_walk (w : World) : Calls Tryd.prog 6 #[] w fun e w' => e = .returned (.bool true) ∧ Below w.heap.size w w' := by
  have ok4 : MetaOK 4 2 0 0 := by unfold MetaOK Fits6; omega
  have ok5 : MetaOK 5 3 0 0 := by unfold MetaOK Fits6; omega
  obtain ⟨s1, t1, -, -, c1⟩ := Two.new.mwrite (by omega) 4 2 0 0 ok4
  replace t1 : Two s1 (mB 4 2 0 0) blank 1 := t1
  obtain ⟨s2, t2, -, -, c2⟩ := t1.mwrite (by omega) 5 3 0 0 ok5
  replace t2 : Two s2 (mB 4 2 0 0) (mB 5 3 0 0) 2 := t2
  obtain ⟨e1, e2, t3⟩ := t2.write1 (filledB_size 120 0)
  have c3 := fun B q w L W hr => write_run B q w s2 L W hr 1 (filledB 120 0) (t2.capIn (by omega))
  rw [e1, e2] at c3
  have v2 := t2.mchoose
  have n2 := newest1 ok5 (by decide) (x := (mB 4 2 0 0).data.toList) (.inr (by rw [(mB_get ok4 (by decide)).2.2]; decide))
  rw [n2.1, n2.2] at v2
  have v3 := t3.mchoose
  have n3 := newest0 ok4 (by decide) (y := (filledB 120 0).data.toList) (.inl (filled_get 1))
  rw [n3.1, n3.2] at v3
  have C1 := Lib.hid c1
  have C2 := Lib.hid c2
  have C3 := Lib.hid c3
  have V2 := Lib.hid v2
  have V3 := Lib.hid v3
  have HF := Lib.hid fun w => filledB_any 120 0 w (by omega)
  clear ok4 ok5 t1 t2 t3 c1 c2 c3 e1 e2 v2 v3 n2 n3
  unfold metaV at C1 C2 V2 V3
  generalize filledB 120 0 = Z at *
  generalize wroteS s2 1 Z = s3 at *
  go_enter Tryd.func6, Tryd.ntmps6
  go_wp2_with fail
  refine (new_run 2 w (by omega) (by omega)).mono ?_
  rintro e w1 ⟨rfl, hd⟩
  have H := Lib.hid hd
  clear hd
  go_wp2_with fail
  refine (grow2_run _ _ _ _ _ H.out).mono ?_
  rintro e w2 ⟨rfl, hd⟩
  have H2 := Lib.hid hd
  clear hd H
  go_wp2_with fail
  refine (C1.out _ _ _ _ _ H2.out).mono ?_
  rintro e w3 ⟨rfl, hd⟩
  have H3 := Lib.hid hd
  clear hd H2
  go_wp2_with fail
  refine (C2.out _ _ _ _ _ H3.out).mono ?_
  rintro e w4 ⟨rfl, hd⟩
  have H4 := Lib.hid hd
  clear hd H3
  go_wp2_with fail
  refine (V2.out _ _ _ _ _ H4.out).mono ?_
  rintro e w5 ⟨rfl, hd⟩
  have H5 := Lib.hid (hd.made 23 #[.int .i64 5, .int .i64 3, .int .i64 0, .int .i64 0])
  clear hd H4
  go_wp2_with fail
  refine (HF.out _).mono ?_
  rintro e w6 ⟨rfl, hb⟩
  have H6 := Lib.hid (H5.out.below hb)
  clear hb H5
  go_wp2_with fail
  refine (C3.out _ _ _ _ _ H6.out).mono ?_
  rintro e w7 ⟨rfl, hd⟩
  have H7 := Lib.hid hd
  clear hd H6
  go_wp2_with fail
  refine (V3.out _ _ _ _ _ H7.out).mono ?_
  rintro e w8 ⟨rfl, hd⟩
  have hm := hd.made 23 #[.int .i64 4, .int .i64 2, .int .i64 0, .int .i64 0]
  obtain ⟨⟨a0, a1, a2, a3⟩, -⟩ := (hm.side (.tail _ (.head _))).four
  obtain ⟨⟨b0, b1, b2, b3⟩, -⟩ := (hm.side (.head _)).four
  have H8 := Lib.hid hm.out
  clear hd H7 hm
  go_wp2_with (go_at_call 9; refine (place_any _ _).mono ?_; rintro e w9 ⟨rfl, rfl⟩)
  go_ret
  exact ⟨rfl, H8.out⟩
end Go.Proofs.YtccajgdfjinjbaaDoor
