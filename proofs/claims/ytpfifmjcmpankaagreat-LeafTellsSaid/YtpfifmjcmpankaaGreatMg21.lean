/-
  Walks over slices.Grow and slices.Concat of items.
-/
import Derived.Test.YtpfifmjcmpankaaGreatMg15
import Derived.Laws.AppendOwn
import Derived.Laws.AppendOwnNone
import Derived.Laws.OwnMore
import Derived.Lib.AppendZeros
namespace Go.Proofs.YtpfifmjcmpankaaGreat
open Go.RowKit Go.Lib

theorem Tryz.infoItem : (Tryz.prog.info? 24).map (fun i => (i.zero, i.size, i.bytes)) = some (some (.agg #[.string ⟨#[]⟩, .string ⟨#[]⟩, .int .i64 0, .int .i64 0]), 4, 48) := by kernel_rfl

section
variable {ops : Array Oper} {rest : List Oper} {o : Oper} {a : Act} {Q : Exit → Act → World → Prop}
/-- append(row, v...) of items. -/
theorem append_its (hgd : o.guard = none) (s x : Operand) (ho : o.op = .call { callee := .builtin .append, args := #[s, x], argTypes := #[22, 22] }) (base : Nat) (wr : World) (d : Value) (xs : List Itm) (hs : a.eval s = d) (hown : wr.ownsRow base 24 4 d xs.length (ilist xs))
    (B : Nat) (v : Value) (hx : a.eval x = v) (l : List Itm) (hr : ReadsIt wr B v l) (hlen : xs.length + l.length ≤ 1000000) (hbase : base ≤ wr.heap.size)
    (h : ∀ v' w', w'.ownsRow base 24 4 v' (xs ++ l).length (ilist (xs ++ l)) → Below base wr w' → wpList Tryz.prog ops Q rest (a.put o.dst v') w') : wpList Tryz.prog ops Q (o :: rest) a wr := by
  obtain ⟨i0, hi, hz0, hz1, hz2⟩ := info_parts Tryz.infoItem
  obtain ⟨A, c, rfl, _, _, hnil, hc⟩ := hr
  cases A with
  | none =>
    obtain ⟨rfl, rfl⟩ := hnil rfl
    exact wpList_append_own_none hgd s x 22 ho base 24 i0 4 Tryz.underlying22 hi _ xs.length (ilist xs) hs hown hx (h _ _ (by simpa using hown) (Below.refl _ _))
  | some ad =>
    have hcells : ∀ j u, (ilist l)[j]? = some u → wr.cell? (ad.add j) = some u := by
      intro j u hu
      have hj := (List.getElem?_eq_some_iff.1 hu).1
      rw [length_ilist] at hj
      obtain ⟨b, off, hA, _, hcell⟩ := hc (by omega)
      obtain rfl := Option.some.inj hA
      rw [Go.WideShapes.add_plain]
      exact hcell.list j u hu
    refine wpList_append_own _ hgd s x 22 ho base 24 i0 _ 4 48 Tryz.underlying22 hi hz0 hz1 hz2 rfl (by decide) _ xs.length (ilist xs) hs hown ad l.length c (ilist l) hx (length_ilist l) hcells (ilist_one l) (by unfold maxLen; omega) (by omega) hbase ?_
    intro v' w' h2 h3 _
    rw [← ilist_append] at h2
    exact h v' w' (by rw [List.length_append]; exact h2) ((Below.refl base wr).grown h3 hbase (fun k hk => (World.ownsRow.lt hown k hk).1))
end

set_option maxRecDepth 100000 in
set_option maxHeartbeats 400000 in
theorem grow_any (n : Nat) (w : World) (hn : n ≤ 1000000) :
    Calls Tryz.prog 166 #[.slice none 0 0, .int .i64 n] w fun e w' => ∃ v, e = .returned v ∧ w'.ownsRow w.heap.size 24 4 v 0 [] ∧ Below w.heap.size w w' := by
  obtain ⟨i0, hi, hz0, hz1, hz2⟩ := info_parts Tryz.infoItem
  have HI := Lib.hid (And.intro hi (And.intro hz0 (And.intro hz1 hz2)))
  clear hi hz0 hz1 hz2
  by_cases h0 : 0 < n
  · have h1 : (n : Int) ≤ 1000000 := by omega
    have h2 : (0 : Int) < n := by omega
    have hr := fun (W : World) (ty : TypeId) => run_append_nil_zeros (P := Tryz.prog) W 22 3 ty 24 i0 _ .i64 .i64 Tryz.underlying22 Tryz.underlying3 HI.out.1 HI.out.2.1 n h0 (by rw [HI.out.2.2.1]; decide) (by omega) (by rw [HI.out.2.2.2]; omega)
    have HR := Lib.hid hr
    clear hr
    go_enter Tryz.func166, Tryz.ntmps166
    go_wp2_with (at_builtin; refine wpList_append_run _ rfl _ _ 22 3 rfl (.slice none 0 0) (.int .i64 n) rfl rfl _ _ (HR.out _ _) ?_)
    go_ret
    have hge := grownCap_ge w n 0 24
    have hcm2 := grownCap_le_maxLen w n 0 24 (by unfold maxLen; omega)
    generalize grownCap w n 0 24 = C at *
    refine ⟨_, rfl, ⟨rfl, .inr ⟨_, _, _, rfl, Nat.le_refl _, heap_alloc_new w.drew _, Nat.zero_le _, hcm2, ?_, ?_⟩⟩, ⟨rfl, rfl, rfl, by simp, fun k hk => Below.heap_alloc w.drew _ k hk⟩⟩
    · simp only [Array.size_append, size_zeroCells, ← Nat.add_mul]
      congr 1
      omega
    · simp
  · obtain rfl : n = 0 := by omega
    go_enter Tryz.func166, Tryz.ntmps166
    go_wp2_with fail
    go_ret
    exact ⟨_, rfl, World.ownsRow_nil _ _ _ _, Below.refl _ _⟩
/-- Lists side by side: the slice, and what it reads. -/
def flatI (P : List (Value × List Itm)) : List Itm := P.flatMap fun p => p.2
theorem flatI_snoc (P : List (Value × List Itm)) (p : Value × List Itm) : flatI (P ++ [p]) = flatI P ++ p.2 := by simp [flatI]
theorem flatI_take (P : List (Value × List Itm)) (k : Nat) : (flatI (P.take k)).length ≤ (flatI P).length := by
  have : (flatI P).length = (flatI (P.take k)).length + (flatI (P.drop k)).length := by
    unfold flatI
    rw [← List.length_append, ← List.flatMap_append, List.take_append_drop]
  omega

set_option maxRecDepth 100000 in
set_option maxHeartbeats 1000000 in
theorem concat_any (v : Value) (P : List (Value × List Itm)) (w : World) (hr : Reads1 w w.heap.size v (P.map fun p => p.1)) (hp : ∀ p ∈ P, ReadsIt w w.heap.size p.1 p.2) (hl : (flatI P).length ≤ 1000000) (hn : P.length ≤ 1000) :
    Calls Tryz.prog 137 #[v] w fun e w' => ∃ v', e = .returned v' ∧ w'.ownsRow w.heap.size 24 4 v' (flatI P).length (ilist (flatI P)) ∧ Below w.heap.size w w' := by
  obtain ⟨A, c, rfl, hc⟩ := hr
  simp only [List.length_map] at hc ⊢
  have HG := Lib.hid (fun W => grow_any (flatI P).length W hl)
  go_enter Tryz.func137, Tryz.ntmps137
  go_wp2_with fail
  go_loop [3, 11] (fun n i => ∃ k : Nat, k ≤ P.length ∧ i = .int .i64 k ∧ n = .int .i64 ((flatI (P.take k)).length : Nat)) (fun _ i => P.length - (RowKit.intOf i).toNat)
  case atStart => exact ⟨0, Nat.zero_le _, rfl, rfl⟩
  case round =>
    obtain ⟨k, hk, rfl, rfl⟩ := hrel
    by_cases hlt : k < P.length
    · obtain ⟨b, off, rfl, hbb, hcell⟩ := hc (by omega)
      have hck := hcell k P[k].1 (by simp [hlt])
      have hpk := (hp P[k] (by simp)).form
      have htk := flatI_take P k
      have htk1 := flatI_take P (k + 1)
      have HS : Hid ((flatI (P.take (k + 1))).length = (flatI (P.take k)).length + P[k].2.length) := Lib.hid (by rw [List.take_succ_eq_append_getElem hlt, flatI_snoc, List.length_append])
      have hle : (flatI (P.take k)).length + P[k].2.length ≤ 1000000 := by rw [← HS.out]; omega
      obtain ⟨A1, c1, hA1⟩ := hpk
      rw [hA1] at hck
      generalize P[k].2.length = m at *
      have HH := Lib.hid (And.intro hc (And.intro hcell (And.intro hp hA1)))
      clear hc hcell hp hA1
      go_wp2_with fail
      exact ⟨⟨k + 1, by omega, by go_num, by rw [HS.out]; go_num⟩, by simp [RowKit.intOf]; omega⟩
    · obtain rfl : k = P.length := by omega
      rw [List.take_length]
      have HH := Lib.hid (And.intro hc (And.intro hp hl))
      clear hc hp hl
      go_wp2_with fail
      refine (HG.out _).mono ?_
      rintro e w1 ⟨v1, rfl, hown1, hb1⟩
      have hnn : (P.length : Int) ≤ 1000 := by omega
      have HO := Lib.hid (And.intro hown1 hb1)
      clear hown1 hb1
      go_wp2_with fail
      go_loopw [6, 27] (fun sv iv wr => ∃ k : Nat, k ≤ P.length ∧ iv = .int .i64 k ∧ wr.ownsRow w.heap.size 24 4 sv (flatI (P.take k)).length (ilist (flatI (P.take k))) ∧ Below w.heap.size w wr) (fun _ iv _ => P.length - (RowKit.intOf iv).toNat)
      case atStart => exact ⟨0, Nat.zero_le _, rfl, HO.out.1, HO.out.2⟩
      case round =>
        obtain ⟨k, hk, rfl, hown, hbl⟩ := hrel
        have hbs := hbl.size
        by_cases hlt : k < P.length
        · obtain ⟨hc, hp, hl⟩ := HH.out
          obtain ⟨b, off, rfl, hbb, hcell⟩ := hc (by omega)
          have hck : wr.cell? ⟨b, off + k, none⟩ = some P[k].1 := (hbl.cell (p := ⟨b, off + k, none⟩) hbb).trans (hcell k P[k].1 (by simp [hlt]))
          have hpk := (hp P[k] (by simp)).below hbl
          have htk1 := flatI_take P (k + 1)
          have HS : flatI (P.take (k + 1)) = flatI (P.take k) ++ P[k].2 := by rw [List.take_succ_eq_append_getElem hlt, flatI_snoc]
          have hle : (flatI (P.take k)).length + P[k].2.length ≤ 1000000 := by
            have := congrArg List.length HS
            rw [List.length_append] at this
            omega
          generalize P[k] = p at *
          generalize flatI (P.take k) = xs at *
          have HSH := Lib.hid (And.intro HS (And.intro hbl hown))
          obtain ⟨A1, c1, hA1⟩ := hpk.form
          rw [hA1] at hck hpk
          clear hc hcell hp HS hl hbl hA1
          go_wp2_with (at_builtin; refine append_its rfl _ _ rfl w.heap.size _ u6 xs rfl hown _ (.slice A1 p.2.length c1) rfl p.2 hpk hle hbs ?_; intro v2 w2 hown2 hb2)
          rw [← HSH.out.1] at hown2
          go_roundw
          case rel => exact ⟨k + 1, by omega, by go_num, hown2, HSH.out.2.1.trans hb2⟩
          case measure => simp [RowKit.intOf]; omega
        · obtain rfl : k = P.length := by omega
          rw [List.take_length] at hown
          go_wp2_with fail
          go_ret
          exact ⟨_, rfl, hown, hbl⟩
end Go.Proofs.YtpfifmjcmpankaaGreat
