/-
  The calls of free pages, but Release and All.
-/
import Derived.Test.YtmcfldcpmjdfbaaGreatDoorMg10
import Derived.Test.YtmcfldcpmjdfbaaGreatDoorMg11
namespace Go.Proofs.YtmcfldcpmjdfbaaGreatDoor
open Go.RowKit Go.Sort

section
variable {p : Nat} {w : World} {F : List Nat} {l k : List Int} {sq : Int} {m : List Due}

theorem ftake_some {x : Int} {s : List Int} (h : FreeIs p w F l sq m k) (hp : l.Perm (x :: s)) (hm : ∀ y ∈ s, x ≤ y) :
    Calls Tryz.prog 35 #[.pointer (some ⟨p, 0, none⟩)] w fun e w' => e = .returned (.tuple #[.int .i64 x, .bool true]) ∧ ∃ F', FreeIs p w' F' s sq m k ∧ Goes F w F' w' := by
  obtain ⟨S, F0, h0, _, hback⟩ := h.free
  have hc := take_some h0 hp hm
  have HB := Lib.hid hback
  clear hback h0 h hp hm
  go_enter Tryz.func35, Tryz.ntmps35
  go_wp2_with fail
  refine hc.mono ?_
  rintro e w1 ⟨rfl, hpi, hk⟩
  have H := Lib.hid (And.intro hpi hk)
  clear hpi hk hc
  go_wp2_with fail
  go_ret2
  exact ⟨rfl, HB.out _ _ _ H.out.1 ⟨H.out.2, fun k hk => .inl hk⟩⟩

theorem ftake_none (h : FreeIs p w F [] sq m k) :
    Calls Tryz.prog 35 #[.pointer (some ⟨p, 0, none⟩)] w fun e w' => e = .returned (.tuple #[.int .i64 0, .bool false]) ∧ w' = w := by
  obtain ⟨S, F0, h0, _, hback⟩ := h.free
  have hc := take_none h0
  clear hback h0 h
  go_enter Tryz.func35, Tryz.ntmps35
  go_wp2_with fail
  refine hc.mono ?_
  rintro e w1 ⟨rfl, rfl⟩
  clear hc
  go_wp2_with fail
  go_ret2
  exact ⟨rfl, rfl⟩

theorem fback_any {v : Value} {xs : List Int} (h : FreeIs p w F l sq m k) (hv : ReadsO F w v (xs.map (.int .i64))) (hl : xs.length + l.length ≤ 1000000) :
    Calls Tryz.prog 26 #[.pointer (some ⟨p, 0, none⟩), v] w fun e w' => e = .returned (.tuple #[]) ∧ ∃ F', FreeIs p w' F' (xs ++ l) sq m k ∧ Goes F w F' w' := by
  obtain ⟨S, F0, h0, hsub, hback⟩ := h.free
  have hc := put_any h0 (hv.mono (fun x hx => .inl (hsub x hx))) hl
  obtain ⟨A, c, rfl, _⟩ := hv
  have HB := Lib.hid hback
  clear hback h0 h hl hsub
  generalize (xs.map (Value.int .i64)).length = n at *
  go_enter Tryz.func26, Tryz.ntmps26
  go_wp2_with fail
  refine hc.mono ?_
  rintro e w1 ⟨rfl, F', hpi, hk⟩
  have H := Lib.hid (And.intro hpi hk)
  clear hpi hk hc
  go_wp2_with fail
  go_end0
  exact ⟨rfl, HB.out _ _ _ H.out.1 H.out.2⟩



theorem flen_any (h : FreeIs p w F l sq m k) :
    Calls Tryz.prog 179 #[.pointer (some ⟨p, 0, none⟩)] w fun e w' => e = .returned (.int .i64 (l.length : Nat)) ∧ w' = w := by
  obtain ⟨S, F0, h0, _, _⟩ := h.free
  have hc := len_any h0
  clear h0 h
  generalize l.length = n at *
  go_enter Tryz.func179, Tryz.ntmps179
  go_wp2_with fail
  refine hc.mono ?_
  rintro e w1 ⟨rfl, rfl⟩
  go_wp2_with fail
  go_ret
  exact ⟨rfl, rfl⟩


theorem flist_any (h : FreeIs p w F l sq m k) :
    Calls Tryz.prog 44 #[.pointer (some ⟨p, 0, none⟩)] w fun e w' => ∃ v', e = .returned v' ∧ w'.ownsRow w.heap.size 3 1 v' l.length ((l.mergeSort leInt).map (.int .i64)) ∧ Below w.heap.size w w' := by
  obtain ⟨S, F0, h0, _, _⟩ := h.free
  have hc := list_any h0
  clear h0 h
  generalize l.length = n at *
  go_enter Tryz.func44, Tryz.ntmps44
  go_wp2_with fail
  refine hc.mono ?_
  rintro e w1 ⟨v', rfl, ho, hb⟩
  have H := Lib.hid (And.intro ho hb)
  obtain ⟨A', c', rfl⟩ := row_form ho
  clear ho hb hc
  go_wp2_with fail
  go_ret
  exact ⟨_, rfl, H.out.1, H.out.2⟩

theorem fnew_any {v : Value} {l : List Int} (h : ReadsO [] w v (l.map (.int .i64))) (hl : l.length ≤ 1000000) :
    Calls Tryz.prog 49 #[v] w fun e w' => e = .returned (.pointer (some ⟨w.heap.size, 0, none⟩)) ∧ (∃ F, FreeIs w.heap.size w' F l 0 [] [] ∧ ∀ x ∈ F, w.heap.size ≤ x) ∧ Below w.heap.size w w' := by
  have hb0 : Below w.heap.size w (w.alloc (.cells #[.slice none 0 0, .int .i64 0, .slice none 0 0, .slice none 0 0] 42)) := (Below.refl _ _).alloc (Nat.le_refl _) _
  have h0 : FreeIs w.heap.size (w.alloc (.cells #[.slice none 0 0, .int .i64 0, .slice none 0 0, .slice none 0 0] 42)) [w.heap.size] [] 0 [] [] :=
    ⟨_, _, _, Has.made w _ _, NRow.nil _ _, DRow.nil _ _, NRow.nil _ _, by simp [Value.ownBlock], by simp [Value.ownBlock], rfl⟩
  have hro : ReadsO [w.heap.size] (w.alloc (.cells #[.slice none 0 0, .int .i64 0, .slice none 0 0, .slice none 0 0] 42)) v (l.map (.int .i64)) := by
    obtain ⟨A, c, rfl, h⟩ := h
    refine ⟨A, c, rfl, fun hn => ?_⟩
    obtain ⟨b, off, rfl, hlt, _, hc⟩ := h hn
    exact ⟨b, off, rfl, Nat.lt_of_lt_of_le hlt hb0.size, by simp; omega, fun j u hu => (hb0.cell (p := ⟨b, off + j, none⟩) hlt).trans (hc j u hu)⟩
  have hc := fback_any h0 hro (by simpa using hl)
  obtain ⟨A, c, rfl, _⟩ := h
  have HB := Lib.hid hb0
  clear h0 hro hb0 hl
  rw [List.append_nil] at hc
  rw [List.length_map] at *
  generalize l.length = n at *
  go_enter Tryz.func49, Tryz.ntmps49
  go_wp2_with fail
  refine hc.mono ?_
  rintro e w1 ⟨rfl, F', hf, hg⟩
  have H := Lib.hid (And.intro hf hg)
  clear hf hg hc
  go_wp2_with fail
  go_ret
  obtain ⟨hf, hg⟩ := H.out
  refine ⟨rfl, ⟨F', hf, fun x hx => (hg.2 x hx).elim (fun h => by simp at h; omega) (fun h => by have := HB.out.size; omega)⟩, HB.out.trans (hg.1.below (by have := HB.out.size; omega) (by simp))⟩
end
end Go.Proofs.YtmcfldcpmjdfbaaGreatDoor
