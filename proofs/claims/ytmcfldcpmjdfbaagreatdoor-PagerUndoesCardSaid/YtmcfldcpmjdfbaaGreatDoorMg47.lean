/-
  What a pager's statements ask of what came in: few and short steps; whether a number is in a list. Make and Drop of a pager, each in one word. What is kept while pages are made and dropped, that an Undo may leave all as it was.
-/
import Derived.Test.YtmcfldcpmjdfbaaGreatDoorMg44
import Derived.Test.YtmcfldcpmjdfbaaGreatDoorMg46
import Derived.Test.YtmcfldcpmjdfbaaGreatDoorMg11
namespace Go.Proofs.YtmcfldcpmjdfbaaGreatDoor
open Go.RowKit Go.Sort Go.Lib

set_option maxRecDepth 1000000 in
set_option maxHeartbeats 2000000 in
theorem light_any {w : World} {v : Value} {os : List POp} (h : ReadsPOps w w.heap.size v os) (hl : os.length ≤ 9223372036854775807) (hok : ∀ o ∈ os, o.ok) :
    Calls Tryz.prog 20 #[v] w fun e w' => ∃ b, e = .returned (.bool b) ∧ (b = true ↔ os.length ≤ 150 ∧ ∀ o ∈ os, o.t.size ≤ 300) ∧ w = w' := by
  obtain ⟨A, c, rfl⟩ := h.form
  obtain ⟨N, hN⟩ : ∃ N, os.length = N := ⟨_, rfl⟩
  have HH := Lib.hid (And.intro h (And.intro hok hN))
  rw [hN] at hl ⊢
  clear h hok hN
  go_enter Tryz.func20, Tryz.ntmps20
  go_wp2_with fail
  go_loopg [3] 300 (fun g iv wr => ∃ (j : Nat), iv = .int .i64 j ∧ j + g = 300 ∧ j ≤ N ∧ (∀ i (hi : i < os.length), i < j → os[i].t.size ≤ 300) ∧ w = wr)
  case atStart => exact ⟨0, rfl, rfl, by omega, fun i hi h => by omega, rfl⟩
  case round =>
    obtain ⟨j, rfl, hjg, hjN, hall, hw⟩ := hrel
    subst hw
    have HA := Lib.hid hall
    clear hall
    by_cases hlt : j < N ∧ j < 300
    · obtain ⟨a1, a2⟩ := hlt
      have d1 : decide ((j : Int) < (N : Int)) = true := by simp; omega
      have d2 : decide ((j : Int) < 300) = true := by simp; omega
      have hjl : j < os.length := by rw [HH.out.2.2]; exact a1
      obtain ⟨b, off, c', hv, -, -, -, -, -, c4⟩ := HH.out.1.at j hjl
      simp only [Value.slice.injEq] at hv
      obtain ⟨rfl, _, rfl⟩ := hv
      have hsz := (HH.out.2.1 _ (List.getElem_mem hjl)).2.2.2.2
      obtain ⟨x, hx⟩ : ∃ x, os[j].t = x := ⟨_, rfl⟩
      rw [hx] at c4 hsz
      have HX := Lib.hid hx
      have hj0 : (0 : Int) ≤ (j : Int) := by omega
      have hj1 : (j : Int) < (N : Int) := by omega
      clear hx
      by_cases hs : x.size ≤ 300
      · have d3 : decide ((300 : Int) < (x.size : Int)) = false := by simp; omega
        go_wp2_with fail
        go_roundg (gk - 1)
        case measure => omega
        case rel =>
          refine ⟨j + 1, by go_num, by omega, by omega, fun i hi hij => ?_, rfl⟩
          by_cases e : i = j
          · subst e
            rw [HX.out]
            exact hs
          · exact HA.out i hi (by omega)
      · have d3 : decide ((300 : Int) < (x.size : Int)) = true := by simp; omega
        go_wp2_with fail
        go_ret
        exact ⟨false, rfl, ⟨fun h => by simp at h, fun h => absurd (h.2 _ (List.getElem_mem hjl)) (by rw [HX.out]; exact hs)⟩, rfl⟩
    · rcases Nat.lt_or_ge j N with a1 | a1
      · have d1 : decide ((j : Int) < (N : Int)) = true := by simp; omega
        have d2 : decide ((j : Int) < 300) = false := by simp; omega
        have d4 : decide ((N : Int) ≤ 150) = false := by simp; omega
        have hNb : ¬ N ≤ 150 := by omega
        have HNB := Lib.hid hNb
        clear hNb
        clear hlt
        go_wp2_with fail
        go_ret
        exact ⟨false, rfl, ⟨fun h => by simp at h, fun h => absurd h.1 HNB.out⟩, rfl⟩
      · obtain rfl : j = N := by omega
        have d1 : decide ((j : Int) < (j : Int)) = false := by simp
        clear hlt
        go_wp2_with fail
        go_ret
        refine ⟨_, rfl, ⟨fun hb => ⟨by simp at hb; omega, fun o ho => ?_⟩, fun hb => by have := hb.1; simp; omega⟩, rfl⟩
        obtain ⟨i, hi, rfl⟩ := List.getElem_of_mem ho
        exact HA.out i hi (by rw [HH.out.2.2] at hi; exact hi)

theorem light_yes {w : World} {v : Value} {os : List POp} (h : ReadsPOps w w.heap.size v os) (hl : os.length ≤ 9223372036854775807) (hok : ∀ o ∈ os, o.ok) (hy : os.length ≤ 150 ∧ ∀ o ∈ os, o.t.size ≤ 300) :
    Calls Tryz.prog 20 #[v] w fun e w' => e = .returned (.bool true) ∧ w = w' := by
  refine (light_any h hl hok).mono ?_
  rintro e w' ⟨b, rfl, hb, rfl⟩
  rw [hb.2 hy]
  exact ⟨rfl, rfl⟩
theorem light_no {w : World} {v : Value} {os : List POp} (h : ReadsPOps w w.heap.size v os) (hl : os.length ≤ 9223372036854775807) (hok : ∀ o ∈ os, o.ok) (hy : ¬ (os.length ≤ 150 ∧ ∀ o ∈ os, o.t.size ≤ 300)) :
    Calls Tryz.prog 20 #[v] w fun e w' => e = .returned (.bool false) ∧ w = w' := by
  refine (light_any h hl hok).mono ?_
  rintro e w' ⟨b, rfl, hb, rfl⟩
  cases b
  · exact ⟨rfl, rfl⟩
  · exact absurd (hb.1 rfl) hy

set_option maxRecDepth 1000000 in
set_option maxHeartbeats 2000000 in
theorem in_any {w : World} {F : List Nat} {v : Value} {L : List Int} (x : Int) (h : ReadsO F w v (L.map (.int .i64))) (hl : L.length ≤ 1000000) :
    Calls Tryz.prog 25 #[v, .int .i64 x] w fun e w' => e = .returned (.bool (decide (x ∈ L))) ∧ w = w' := by
  obtain ⟨A, c, rfl⟩ := h.form
  obtain ⟨N, hN⟩ : ∃ N, L.length = N := ⟨_, rfl⟩
  have HH := Lib.hid (And.intro h hN)
  rw [hN] at hl ⊢
  clear h hN
  go_enter Tryz.func25, Tryz.ntmps25
  go_wp2_with fail
  go_loopg [5] N (fun g iv wr => ∃ (j : Nat), iv = .int .i64 j ∧ j + g = N ∧ x ∉ L.take j ∧ w = wr)
  case atStart => exact ⟨0, rfl, by omega, by simp, rfl⟩
  case round =>
    obtain ⟨j, rfl, hjg, hni, hw⟩ := hrel
    subst hw
    have HA := Lib.hid hni
    clear hni
    by_cases hlt : j < N
    · have d1 : decide ((j : Int) < (N : Int)) = true := by simp; omega
      have hjl : j < L.length := by rw [HH.out.2]; exact hlt
      obtain ⟨b, off, c', hv, hck⟩ := HH.out.1.at j hjl
      simp only [Value.slice.injEq] at hv
      obtain ⟨rfl, _, rfl⟩ := hv
      have htk := take_snoc1 L j hjl
      have hmem : L[j] ∈ L := List.getElem_mem hjl
      have HT := Lib.hid (And.intro htk hmem)
      have hj0 : (0 : Int) ≤ (j : Int) := by omega
      have hj1 : (j : Int) < (N : Int) := by omega
      by_cases he : L[j] = x
      · have hb : (L[j] == x) = true := by simpa using he
        generalize L[j] = y at *
        clear htk hmem
        go_wp2_with fail
        go_ret
        exact ⟨ret_bool (by simp; rw [← he]; exact HT.out.2), rfl⟩
      · have hb : (L[j] == x) = false := by simpa using he
        generalize L[j] = y at *
        clear htk hmem
        go_wp2_with fail
        go_roundg (N - (j + 1))
        case measure => omega
        case rel =>
          refine ⟨j + 1, by go_num, by omega, ?_, rfl⟩
          rw [HT.out.1]
          simp
          exact ⟨HA.out, fun e => he e.symm⟩
    · obtain rfl : j = N := by omega
      have d1 : decide ((j : Int) < (j : Int)) = false := by simp
      have hfull : L.take j = L := List.take_of_length_le (by rw [HH.out.2]; exact Nat.le_refl _)
      clear hlt
      go_wp2_with fail
      go_ret
      exact ⟨ret_bool (by rw [← hfull]; simpa using HA.out), rfl⟩
end Go.Proofs.YtmcfldcpmjdfbaaGreatDoor

namespace Go.Proofs.YtmcfldcpmjdfbaaGreatDoor
open Go.RowKit Go.Sort Go.Lib

/-- The number that Make gives, and what it is taken from. -/
def Cand (s : PgS) (id : Int) (s1 : PgS) : Prop :=
  (∃ l, s.spare.Perm (id :: l) ∧ s1 = { s with spare := l }) ∨ (s.spare = [] ∧ ∃ l, s.l.Perm (id :: l) ∧ s1 = { s with l := l }) ∨
  (s.spare = [] ∧ s.l = [] ∧ id = s.pages ∧ ((s.pages < s.dev.pages.length ∧ s1 = { s with pages := s.pages + 1 }) ∨ (s.pages = s.dev.pages.length ∧ s.pages < s.dev.most ∧ s1 = { s with pages := s.pages + 1, dev := longer s.dev 1 })))
def MakeTo (s : PgS) (k n : Int) (t : ByteArray) (id r : Int) (s' : PgS) : Prop :=
  (r ≠ 0 ∧ id = 0 ∧ s' = s) ∨ (r = 0 ∧ sealE id k n t.size = 0 ∧ ∃ s1, Cand s id s1 ∧ s' = keptS s1 id ⟨1, k, n, t⟩)
def DropTo (s : PgS) (x : Int) (s' : PgS) : Prop :=
  s' = s ∨ (2 ≤ x ∧ x < s.pages ∧ (s.H x).fate ≠ 1 ∧ (s.H x).fate ≠ 2 ∧ (s.H x).fate ≠ 3 ∧ s' = keptS s x (chg0 2)) ∨
  ((s.H x).fate = 1 ∧ x < s.there ∧ s' = { keptS s x (chg0 3) with l := x :: s.l }) ∨ ((s.H x).fate = 1 ∧ s.there ≤ x ∧ s' = { keptS s x (chg0 3) with spare := x :: s.spare })

/-- What is asked of a pager that its calls may be told so. -/
structure PgOK (s : PgS) : Prop where
  idle : Idle s.dev
  lo : 2 ≤ s.pages
  len : s.pages ≤ s.dev.pages.length
  most : s.dev.pages.length ≤ s.dev.most
  few : s.dev.most ≤ 3000
  spare : ∀ x ∈ s.spare, 2 ≤ x ∧ x < s.pages
  free : ∀ x ∈ s.l, 2 ≤ x ∧ x < s.pages
  sizes : s.n ≤ 10000 ∧ s.spare.length ≤ 10000 ∧ s.l.length ≤ 10000
  body : ∀ x, (s.H x).body.size ≤ 1000
  place : ∀ x, (s.H x).fate = 1 → 2 ≤ x ∧ x < s.pages

section
variable {p pd pf b : Nat} {s : PgS} {F : List Nat} {w : World}
theorem gmake_any (k n : Int) (t : ByteArray) (ho : PgOK s) (hk : IsInt k) (hn : IsInt n) (hs : t.size ≤ 1000) (h : PgIs p pd pf b s F w) :
    Calls Tryz.prog 8 #[.pointer (some ⟨p, 0, none⟩), .agg #[.int .i64 k, .int .i64 n, .string t]] w fun e w' => ∃ id r s', e = .returned (.tuple #[.int .i64 id, .int .i64 r]) ∧ MakeTo s k n t id r s' ∧ ∃ F', PgIs p pd pf b s' F' w' ∧ Goes F w F' w' := by
  have hb := ho.few
  have hm := ho.most
  have hl := ho.len
  have hlo := ho.lo
  have hint : ∀ x, 2 ≤ x → x < s.pages → IsInt x := fun x a c => by unfold IsInt; omega
  have hip : IsInt s.pages := by unfold IsInt; omega
  have hz := ho.sizes
  by_cases hsp : s.spare = []
  · by_cases hfr : s.l = []
    · by_cases hse : sealE s.pages k n t.size = 0
      · by_cases h1 : s.pages < s.dev.pages.length
        · refine (gmake_ext k n t hsp hfr h (fun w1 hp1 => gextend_in k n t h1 hip hk hn (by omega) hse (by omega) hp1)).mono ?_
          rintro e w' ⟨rfl, h2⟩
          exact ⟨_, _, _, rfl, .inr ⟨rfl, hse, _, .inr (.inr ⟨hsp, hfr, rfl, .inl ⟨h1, rfl⟩⟩), rfl⟩, h2⟩
        · by_cases h3 : s.pages < s.dev.most
          · refine (gmake_ext k n t hsp hfr h (fun w1 hp1 => gextend_grow k n t (by omega) h3 ho.idle hip hk hn (by omega) hse (by omega) hp1)).mono ?_
            rintro e w' ⟨rfl, h2⟩
            exact ⟨_, _, _, rfl, .inr ⟨rfl, hse, _, .inr (.inr ⟨hsp, hfr, rfl, .inr ⟨by omega, h3, rfl⟩⟩), rfl⟩, h2⟩
          · refine (gmake_ext k n t hsp hfr h (fun w1 hp1 => gextend_full k n t (by omega) (by omega) ho.idle hip hk hn (by omega) hse hp1)).mono ?_
            rintro e w' ⟨rfl, h2⟩
            exact ⟨_, _, _, rfl, .inl ⟨by decide, rfl, rfl⟩, h2⟩
      · refine (gmake_ext (s' := s) (id := 0) (r := sealE s.pages k n t.size) k n t hsp hfr h (fun w1 hp1 => (gextend_bad k n t hip hk hn (by omega) hse hp1).mono fun e w' he => ⟨he.1, _, hp1.below he.2, goes_below he.2⟩)).mono ?_
        rintro e w' ⟨rfl, h2⟩
        exact ⟨_, _, _, rfl, .inl ⟨hse, rfl, rfl⟩, h2⟩
    · obtain ⟨x, l, hp, hle⟩ := int_least s.l hfr
      have hx := ho.free x (hp.mem_iff.2 (by simp))
      by_cases hse : sealE x k n t.size = 0
      · refine (gmake_free k n t hsp hp hle (hint x hx.1 hx.2) hk hn (by omega) hse (by omega) h).mono ?_
        rintro e w' ⟨rfl, h2⟩
        exact ⟨_, _, _, rfl, .inr ⟨rfl, hse, _, .inr (.inl ⟨hsp, l, hp, rfl⟩), rfl⟩, h2⟩
      · refine (gmake_free_bad k n t hsp hp hle (hint x hx.1 hx.2) hk hn (by omega) hse (by omega) h).mono ?_
        rintro e w' ⟨rfl, h2⟩
        exact ⟨_, _, _, rfl, .inl ⟨hse, rfl, rfl⟩, h2⟩
  · obtain ⟨x, l, hp, hle⟩ := int_least s.spare hsp
    have hx := ho.spare x (hp.mem_iff.2 (by simp))
    by_cases hse : sealE x k n t.size = 0
    · refine (gmake_spare k n t hp hle (hint x hx.1 hx.2) hk hn (by omega) hse (by omega) h).mono ?_
      rintro e w' ⟨rfl, h2⟩
      exact ⟨_, _, _, rfl, .inr ⟨rfl, hse, _, .inl ⟨l, hp, rfl⟩, rfl⟩, h2⟩
    · refine (gmake_spare_bad k n t hp hle (hint x hx.1 hx.2) hk hn (by omega) hse (by omega) h).mono ?_
      rintro e w' ⟨rfl, h2⟩
      exact ⟨_, _, _, rfl, .inl ⟨hse, rfl, rfl⟩, h2⟩

theorem gdrop_any (x : Int) (hx : IsInt x) (ho : PgOK s) (h : PgIs p pd pf b s F w) :
    Calls Tryz.prog 13 #[.pointer (some ⟨p, 0, none⟩), .int .i64 x] w fun e w' => ∃ g s', e = .returned (.int .i64 g) ∧ DropTo s x s' ∧ ∃ F', PgIs p pd pf b s' F' w' ∧ Goes F w F' w' := by
  have hz := ho.sizes
  have hbd := ho.body x
  by_cases hf : (s.H x).fate = 1
  · obtain ⟨a, c⟩ := ho.place x hf
    by_cases ht : x < s.there
    · refine (gdrop_below x a c hf (by omega) ht hx (by omega) (by omega) h).mono ?_
      rintro e w' ⟨rfl, h2⟩
      exact ⟨_, _, rfl, .inr (.inr (.inl ⟨hf, ht, rfl⟩)), h2⟩
    · refine (gdrop_beyond x a c hf (by omega) (by omega) hx (by omega) (by omega) h).mono ?_
      rintro e w' ⟨rfl, h2⟩
      exact ⟨_, _, rfl, .inr (.inr (.inr ⟨hf, by omega, rfl⟩)), h2⟩
  · refine (gdrop_other x hf hx (by omega) h ((gread_any x hx (by omega) h).mono fun e w' he => ⟨by obtain ⟨⟨k, n, t, g, h1, h2, _⟩, _⟩ := he; exact ⟨k, n, t, g, h1, h2⟩, he.2⟩)).mono ?_
    rintro e w' ⟨g, rfl, h1, h2⟩
    rcases h1 with ⟨_, h1⟩ | ⟨_, a, c, f2, f3, h1⟩
    · exact ⟨_, _, rfl, .inl rfl, _, h1, h2⟩
    · exact ⟨_, _, rfl, .inr (.inl ⟨a, c, hf, f2, f3, rfl⟩), _, h1, h2⟩
end

theorem seal_le {x k n : Int} {t : ByteArray} (h : sealE x k n t.size = 0) : t.size ≤ 1000 := by have := seal_small h; omega

/-- What is asked stays so. -/
theorem PgOK.made {s s' : PgS} {k n id r : Int} {t : ByteArray} (h : PgOK s) (hm : MakeTo s k n t id r s') (hn : s.n < 9000 ∧ s.spare.length < 9000 ∧ s.l.length < 9000) : PgOK s' := by
  rcases hm with ⟨_, _, rfl⟩ | ⟨_, hse, s1, hc, rfl⟩
  · exact h
  · have hbody : ∀ (H : Int → Chg), (∀ x, (H x).body.size ≤ 1000) → ∀ x, ((upd H id ⟨1, k, n, t⟩) x).body.size ≤ 1000 := fun H hH x => by
      by_cases e : x = id
      · subst e
        rw [upd_same]
        exact seal_le hse
      · rw [upd_other _ _ e]
        exact hH x
    have hplace : ∀ (H : Int → Chg) (q : Int), (2 ≤ id ∧ id < q) → (∀ x, (H x).fate = 1 → 2 ≤ x ∧ x < q) → ∀ x, ((upd H id ⟨1, k, n, t⟩) x).fate = 1 → 2 ≤ x ∧ x < q := fun H q hid hH x hx => by
      by_cases e : x = id
      · subst e
        exact hid
      · rw [upd_other _ _ e] at hx
        exact hH x hx
    rcases hc with ⟨l, hp, rfl⟩ | ⟨hsp, l, hp, rfl⟩ | ⟨hsp, hfr, rfl, h1⟩
    · have hl := hp.length_eq
      simp at hl
      exact ⟨h.idle, h.lo, h.len, h.most, h.few, fun x hx => h.spare x (hp.mem_iff.2 (List.mem_cons_of_mem _ hx)), h.free, ⟨by show s.n + 1 ≤ _; omega, by show l.length ≤ _; omega, by show s.l.length ≤ _; omega⟩, hbody _ h.body, hplace _ _ (h.spare id (hp.mem_iff.2 (by simp))) h.place⟩
    · have hl := hp.length_eq
      simp at hl
      exact ⟨h.idle, h.lo, h.len, h.most, h.few, h.spare, fun x hx => h.free x (hp.mem_iff.2 (List.mem_cons_of_mem _ hx)), ⟨by show s.n + 1 ≤ _; omega, by show s.spare.length ≤ _; omega, by show l.length ≤ _; omega⟩, hbody _ h.body, hplace _ _ (h.free id (hp.mem_iff.2 (by simp))) h.place⟩
    · have hlo := h.lo
      have hpl := hplace s.H (s.pages + 1) (by omega) (fun x hx => by have := h.place x hx; omega)
      rcases h1 with ⟨a, rfl⟩ | ⟨a, c, rfl⟩
      · exact ⟨h.idle, by show 2 ≤ s.pages + 1; omega, by show s.pages + 1 ≤ (s.dev.pages.length : Int); omega, h.most, h.few, fun x hx => by have := h.spare x hx; show _ ∧ x < s.pages + 1; omega, fun x hx => by have := h.free x hx; show _ ∧ x < s.pages + 1; omega, ⟨by show s.n + 1 ≤ _; omega, by show s.spare.length ≤ _; omega, by show s.l.length ≤ _; omega⟩, hbody _ h.body, hpl⟩
      · refine ⟨longer_idle h.idle 1, by show 2 ≤ s.pages + 1; omega, ?_, ?_, h.few, fun x hx => by have := h.spare x hx; show _ ∧ x < s.pages + 1; omega, fun x hx => by have := h.free x hx; show _ ∧ x < s.pages + 1; omega, ⟨by show s.n + 1 ≤ _; omega, by show s.spare.length ≤ _; omega, by show s.l.length ≤ _; omega⟩, hbody _ h.body, hpl⟩
        · show s.pages + 1 ≤ ((longer s.dev 1).pages.length : Int)
          rw [longer_len]
          omega
        · show ((longer s.dev 1).pages.length : Int) ≤ s.dev.most
          rw [longer_len]
          omega
theorem PgOK.dropped {s s' : PgS} {x : Int} (h : PgOK s) (hd : DropTo s x s') (hn : s.n < 9000 ∧ s.spare.length < 9000 ∧ s.l.length < 9000) : PgOK s' := by
  have hbody : ∀ f, ∀ y, ((upd s.H x (chg0 f)) y).body.size ≤ 1000 := fun f y => by
    by_cases e : y = x
    · subst e
      rw [upd_same]
      show (⟨#[]⟩ : ByteArray).size ≤ 1000
      decide
    · rw [upd_other _ _ e]
      exact h.body y
  have hplace : ∀ f, f ≠ 1 → ∀ y, ((upd s.H x (chg0 f)) y).fate = 1 → 2 ≤ y ∧ y < s.pages := fun f hf y hy => by
    by_cases e : y = x
    · subst e
      rw [upd_same] at hy
      exact absurd hy hf
    · rw [upd_other _ _ e] at hy
      exact h.place y hy
  rcases hd with rfl | ⟨_, _, _, _, _, rfl⟩ | ⟨hf, _, rfl⟩ | ⟨hf, _, rfl⟩
  · exact h
  · exact ⟨h.idle, h.lo, h.len, h.most, h.few, h.spare, h.free, ⟨by show s.n + 1 ≤ _; omega, by show s.spare.length ≤ _; omega, by show s.l.length ≤ _; omega⟩, hbody 2, hplace 2 (by decide)⟩
  · exact ⟨h.idle, h.lo, h.len, h.most, h.few, h.spare, fun y hy => by rcases List.mem_cons.1 hy with rfl | hy; exact h.place _ hf; exact h.free y hy, ⟨by show s.n + 1 ≤ _; omega, by show s.spare.length ≤ _; omega, by show (x :: s.l).length ≤ _; simp; omega⟩, hbody 3, hplace 3 (by decide)⟩
  · exact ⟨h.idle, h.lo, h.len, h.most, h.few, fun y hy => by rcases List.mem_cons.1 hy with rfl | hy; exact h.place _ hf; exact h.spare y hy, h.free, ⟨by show s.n + 1 ≤ _; omega, by show (x :: s.spare).length ≤ _; simp; omega, by show s.l.length ≤ _; omega⟩, hbody 3, hplace 3 (by decide)⟩
theorem make_sizes {s s' : PgS} {k n id r : Int} {t : ByteArray} (hm : MakeTo s k n t id r s') : s'.n ≤ s.n + 1 ∧ s'.spare.length ≤ s.spare.length + 1 ∧ s'.l.length ≤ s.l.length + 1 := by
  rcases hm with ⟨_, _, rfl⟩ | ⟨_, hse, s1, hc, rfl⟩
  · omega
  · rcases hc with ⟨l, hp, rfl⟩ | ⟨hsp, l, hp, rfl⟩ | ⟨hsp, hfr, rfl, h1⟩
    · have hl := hp.length_eq
      simp at hl
      simp only [keptS]
      omega
    · have hl := hp.length_eq
      simp at hl
      simp only [keptS]
      omega
    · rcases h1 with ⟨a, rfl⟩ | ⟨a, c, rfl⟩ <;> simp only [keptS] <;> omega
theorem drop_sizes {s s' : PgS} {x : Int} (hd : DropTo s x s') : s'.n ≤ s.n + 1 ∧ s'.spare.length ≤ s.spare.length + 1 ∧ s'.l.length ≤ s.l.length + 1 := by
  rcases hd with rfl | ⟨_, _, _, _, _, rfl⟩ | ⟨hf, _, rfl⟩ | ⟨hf, _, rfl⟩
  · omega
  · simp only [keptS]
    omega
  · simp only [keptS, List.length_cons]
    omega
  · simp only [keptS, List.length_cons]
    omega
end Go.Proofs.YtmcfldcpmjdfbaaGreatDoor

namespace Go.Proofs.YtmcfldcpmjdfbaaGreatDoor
open Go.RowKit Go.Sort Go.Lib

structure US (fr : List Int) (s : PgS) (i : Nat) : Prop where
  ok : PgOK s
  few : s.n ≤ i ∧ s.spare.length ≤ i ∧ s.l.length ≤ 20 + i
  wait : s.m = []
  there : s.there = 12
  pages : 12 ≤ s.pages
  line : s.dev.line = []
  nodup : s.l.Nodup
  far : ∀ x ∈ s.spare, 12 ≤ x
  apart : ∀ x ∈ s.l, (s.H x).fate ≠ 1
  all : ∀ x, x ∈ fr ↔ (x ∈ s.l ∨ ((s.H x).fate = 1 ∧ x < 12))

section
variable {fr : List Int} {s s' : PgS} {i : Nat}
theorem US.make {k n id r : Int} {t : ByteArray} (h : US fr s i) (hfr : ∀ x ∈ fr, x < 12) (hi : i ≤ 1000) (hm : MakeTo s k n t id r s') : US fr s' (i + 1) := by
  have hz := make_sizes hm
  have hf := h.few
  have hok := h.ok.made hm (by omega)
  have hfew : s'.n ≤ i + 1 ∧ s'.spare.length ≤ i + 1 ∧ s'.l.length ≤ 20 + (i + 1) := by omega
  rcases hm with ⟨_, _, rfl⟩ | ⟨_, hse, s1, hc, rfl⟩
  · exact ⟨hok, hfew, h.wait, h.there, h.pages, h.line, h.nodup, h.far, h.apart, h.all⟩
  · have hl12 : ∀ x ∈ s.l, x < 12 := fun x hx => hfr x ((h.all x).2 (.inl hx))
    -- a number from 12 on is made
    have hbig : 12 ≤ id → (∀ x ∈ s.l, ((upd s.H id ⟨1, k, n, t⟩) x).fate ≠ 1) ∧ ∀ x, x ∈ fr ↔ (x ∈ s.l ∨ (((upd s.H id ⟨1, k, n, t⟩) x).fate = 1 ∧ x < 12)) := fun hid => by
      refine ⟨fun x hx => ?_, fun x => ?_⟩
      · rw [upd_other _ _ (fun e => by have := hl12 x hx; omega)]
        exact h.apart x hx
      · by_cases e : x = id
        · subst e
          rw [h.all x]
          constructor
          · rintro (a | a)
            · exact .inl a
            · omega
          · rintro (a | a)
            · exact .inl a
            · omega
        · rw [upd_other _ _ e]
          exact h.all x
    rcases hc with ⟨l, hp, rfl⟩ | ⟨hsp, l, hp, rfl⟩ | ⟨hsp, hfr', rfl, h1⟩
    · obtain ⟨a1, a2⟩ := hbig (h.far id (hp.mem_iff.2 (by simp)))
      exact ⟨hok, hfew, h.wait, h.there, h.pages, h.line, h.nodup, fun x hx => h.far x (hp.mem_iff.2 (List.mem_cons_of_mem _ hx)), a1, a2⟩
    · have hnd := (hp.nodup_iff).1 h.nodup
      obtain ⟨b1, b2⟩ := List.nodup_cons.1 hnd
      refine ⟨hok, hfew, h.wait, h.there, h.pages, h.line, b2, h.far, fun x hx => ?_, fun x => ?_⟩
      · show ((upd s.H id ⟨1, k, n, t⟩) x).fate ≠ 1
        rw [upd_other _ _ (fun e => by subst e; exact b1 hx)]
        exact h.apart x (hp.mem_iff.2 (List.mem_cons_of_mem _ hx))
      · show x ∈ fr ↔ (x ∈ l ∨ (((upd s.H id ⟨1, k, n, t⟩) x).fate = 1 ∧ x < 12))
        by_cases e : x = id
        · subst e
          rw [upd_same]
          have hx := hl12 x (hp.mem_iff.2 (by simp))
          exact ⟨fun _ => .inr ⟨rfl, hx⟩, fun _ => (h.all x).2 (.inl (hp.mem_iff.2 (by simp)))⟩
        · rw [upd_other _ _ e, h.all x, hp.mem_iff]
          simp [e]
    · have hpg := h.pages
      obtain ⟨a1, a2⟩ := hbig hpg
      rcases h1 with ⟨a, rfl⟩ | ⟨a, c, rfl⟩
      · exact ⟨hok, hfew, h.wait, h.there, by show 12 ≤ s.pages + 1; omega, h.line, h.nodup, h.far, a1, a2⟩
      · exact ⟨hok, hfew, h.wait, h.there, by show 12 ≤ s.pages + 1; omega, h.line, h.nodup, h.far, a1, a2⟩

theorem US.drop {x0 : Int} (h : US fr s i) (hi : i ≤ 1000) (hd : DropTo s x0 s') : US fr s' (i + 1) := by
  have hz := drop_sizes hd
  have hf := h.few
  have hok := h.ok.dropped hd (by omega)
  have hfew : s'.n ≤ i + 1 ∧ s'.spare.length ≤ i + 1 ∧ s'.l.length ≤ 20 + (i + 1) := by omega
  rcases hd with rfl | ⟨_, _, f1, _, _, rfl⟩ | ⟨f1, hth, rfl⟩ | ⟨f1, hth, rfl⟩
  · exact ⟨hok, hfew, h.wait, h.there, h.pages, h.line, h.nodup, h.far, h.apart, h.all⟩
  · refine ⟨hok, hfew, h.wait, h.there, h.pages, h.line, h.nodup, h.far, fun x hx => ?_, fun x => ?_⟩
    · show ((upd s.H x0 (chg0 2)) x).fate ≠ 1
      by_cases e : x = x0
      · subst e
        rw [upd_same]
        show (2 : Int) ≠ 1
        decide
      · rw [upd_other _ _ e]
        exact h.apart x hx
    · show x ∈ fr ↔ (x ∈ s.l ∨ (((upd s.H x0 (chg0 2)) x).fate = 1 ∧ x < 12))
      by_cases e : x = x0
      · subst e
        rw [upd_same, h.all x]
        have h2 : ¬ (chg0 2).fate = 1 := by show ¬ (2 : Int) = 1; decide
        simp [f1, h2]
      · rw [upd_other _ _ e]
        exact h.all x
  · have hx0 : x0 ∉ s.l := fun hx => h.apart x0 hx f1
    have h2 : ¬ (chg0 3).fate = 1 := by show ¬ (3 : Int) = 1; decide
    refine ⟨hok, hfew, h.wait, h.there, h.pages, h.line, List.nodup_cons.2 ⟨hx0, h.nodup⟩, h.far, fun x hx => ?_, fun x => ?_⟩
    · show ((upd s.H x0 (chg0 3)) x).fate ≠ 1
      by_cases e : x = x0
      · subst e
        rw [upd_same]
        exact h2
      · rw [upd_other _ _ e]
        rcases List.mem_cons.1 hx with rfl | hx
        · exact absurd rfl e
        · exact h.apart x hx
    · show x ∈ fr ↔ (x ∈ x0 :: s.l ∨ (((upd s.H x0 (chg0 3)) x).fate = 1 ∧ x < 12))
      rw [h.there] at hth
      by_cases e : x = x0
      · subst e
        rw [upd_same, h.all x]
        simp [f1, h2, hth]
      · rw [upd_other _ _ e, h.all x]
        simp [e]
  · have h2 : ¬ (chg0 3).fate = 1 := by show ¬ (3 : Int) = 1; decide
    rw [h.there] at hth
    refine ⟨hok, hfew, h.wait, h.there, h.pages, h.line, h.nodup, fun x hx => ?_, fun x hx => ?_, fun x => ?_⟩
    · rcases List.mem_cons.1 hx with rfl | hx
      · exact hth
      · exact h.far x hx
    · show ((upd s.H x0 (chg0 3)) x).fate ≠ 1
      by_cases e : x = x0
      · subst e
        rw [upd_same]
        exact h2
      · rw [upd_other _ _ e]
        exact h.apart x hx
    · show x ∈ fr ↔ (x ∈ s.l ∨ (((upd s.H x0 (chg0 3)) x).fate = 1 ∧ x < 12))
      by_cases e : x = x0
      · subst e
        rw [upd_same, h.all x]
        simp only [f1, h2, true_and, false_and, or_false]
        constructor
        · rintro (a | a)
          · exact a
          · omega
        · exact .inl
      · rw [upd_other _ _ e]
        exact h.all x

/-- What an Undo leaves free is what was free. -/
theorem US.undone {L l' : List Int} (h : US fr s i) (hfn : fr.Nodup) (hL : Fated s.H 1 L) (hp : l'.Perm (lessOf s.there L ++ s.l)) : l'.Perm fr := by
  refine hp.trans ((List.perm_ext_iff_of_nodup ?_ hfn).2 fun x => ?_)
  · have hLn : L.Nodup := hL.1.imp (fun {a b} hab => by omega)
    refine List.nodup_append.2 ⟨hLn.filter _, h.nodup, fun a ha c hc e => ?_⟩
    subst e
    exact h.apart a hc ((hL.2.2 a).1 ((List.mem_filter.1 ha).1))
  · rw [h.all x, List.mem_append, h.there]
    unfold lessOf
    rw [List.mem_filter, hL.2.2 x]
    simp only [decide_eq_true_eq]
    exact or_comm

theorem US.new {fr : List Int} (hfr : ∀ x ∈ fr, 2 ≤ x ∧ x < 12) (hn : fr.Nodup) (hl : fr.length ≤ 20) : US fr (newPg (longer (newS 40) 12) fr 0 [] [] 12 1) 0 where
  ok := ⟨longer_idle (newS_idle 40) 12, by show (2 : Int) ≤ 12; omega, by show (12 : Int) ≤ ((longer (newS 40) 12).pages.length : Int); rw [longer_new_len]; omega, by show ((longer (newS 40) 12).pages.length : Int) ≤ 40; rw [longer_new_len]; omega, by show (40 : Int) ≤ 3000; omega,
    fun x hx => absurd hx (by simp [newPg]), hfr, ⟨Nat.zero_le _, Nat.zero_le _, by show fr.length ≤ 10000; omega⟩, fun x => by show (⟨#[]⟩ : ByteArray).size ≤ 1000; decide, fun x hx => absurd hx (by show ¬ (0 : Int) = 1; decide)⟩
  few := ⟨Nat.le_refl _, Nat.le_refl _, hl⟩
  wait := rfl
  there := rfl
  pages := by show (12 : Int) ≤ 12; omega
  line := rfl
  nodup := hn
  far := fun x hx => absurd hx (by simp [newPg])
  apart := fun x _ => by show ¬ (0 : Int) = 1; decide
  all := fun x => by
    show x ∈ fr ↔ (x ∈ fr ∨ ((0 : Int) = 1 ∧ x < 12))
    simp
end
end Go.Proofs.YtmcfldcpmjdfbaaGreatDoor
