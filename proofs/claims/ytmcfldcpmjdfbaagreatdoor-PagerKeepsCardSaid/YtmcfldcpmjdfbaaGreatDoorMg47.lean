/-
  What a pager's statements ask of what came in: few and short steps; whether a number is in a list. Make and Drop of a pager, each in one word. What is kept while pages are made, dropped, flushed and synced, that no page of an elder state is written to.
-/
import Derived.Test.YtmcfldcpmjdfbaaGreatDoorMg44
import Derived.Test.YtmcfldcpmjdfbaaGreatDoorMg46
import Derived.Test.YtmcfldcpmjdfbaaGreatDoorMg11
namespace Go.Proofs.YtmcfldcpmjdfbaaGreatDoor
open Go.RowKit Go.Sort Go.Lib

set_option maxRecDepth 1000000 in
set_option maxHeartbeats 2000000 in
theorem light_any {w : World} {v : Value} {os : List POp} (h : ReadsPOps w w.heap.size v os) (hl : os.length ≤ 9223372036854775807) (hok : ∀ o ∈ os, o.ok) :
    Calls Tryz.prog 20 #[v] w fun e w' => ∃ b, e = .returned (.bool b) ∧ (b = true ↔ os.length ≤ 150 ∧ ∀ o ∈ os, o.t.size ≤ 300) ∧ w = w' := by
  obtain ⟨A, c, rfl⟩ := h.form
  obtain ⟨N, hN⟩ : ∃ N, os.length = N := ⟨_, rfl⟩
  have HH := Lib.hid (And.intro h (And.intro hok hN))
  rw [hN] at hl ⊢
  clear h hok hN
  go_enter Tryz.func20, Tryz.ntmps20
  go_wp2_with fail
  go_loopg [3] 300 (fun g iv wr => ∃ (j : Nat), iv = .int .i64 j ∧ j + g = 300 ∧ j ≤ N ∧ (∀ i (hi : i < os.length), i < j → os[i].t.size ≤ 300) ∧ w = wr)
  case atStart => exact ⟨0, rfl, rfl, by omega, fun i hi h => by omega, rfl⟩
  case round =>
    obtain ⟨j, rfl, hjg, hjN, hall, hw⟩ := hrel
    subst hw
    have HA := Lib.hid hall
    clear hall
    by_cases hlt : j < N ∧ j < 300
    · obtain ⟨a1, a2⟩ := hlt
      have d1 : decide ((j : Int) < (N : Int)) = true := by simp; omega
      have d2 : decide ((j : Int) < 300) = true := by simp; omega
      have hjl : j < os.length := by rw [HH.out.2.2]; exact a1
      obtain ⟨b, off, c', hv, -, -, -, -, -, c4⟩ := HH.out.1.at j hjl
      simp only [Value.slice.injEq] at hv
      obtain ⟨rfl, _, rfl⟩ := hv
      have hsz := (HH.out.2.1 _ (List.getElem_mem hjl)).2.2.2.2
      obtain ⟨x, hx⟩ : ∃ x, os[j].t = x := ⟨_, rfl⟩
      rw [hx] at c4 hsz
      have HX := Lib.hid hx
      have hj0 : (0 : Int) ≤ (j : Int) := by omega
      have hj1 : (j : Int) < (N : Int) := by omega
      clear hx
      by_cases hs : x.size ≤ 300
      · have d3 : decide ((300 : Int) < (x.size : Int)) = false := by simp; omega
        go_wp2_with fail
        go_roundg (gk - 1)
        case measure => omega
        case rel =>
          refine ⟨j + 1, by go_num, by omega, by omega, fun i hi hij => ?_, rfl⟩
          by_cases e : i = j
          · subst e
            rw [HX.out]
            exact hs
          · exact HA.out i hi (by omega)
      · have d3 : decide ((300 : Int) < (x.size : Int)) = true := by simp; omega
        go_wp2_with fail
        go_ret
        exact ⟨false, rfl, ⟨fun h => by simp at h, fun h => absurd (h.2 _ (List.getElem_mem hjl)) (by rw [HX.out]; exact hs)⟩, rfl⟩
    · rcases Nat.lt_or_ge j N with a1 | a1
      · have d1 : decide ((j : Int) < (N : Int)) = true := by simp; omega
        have d2 : decide ((j : Int) < 300) = false := by simp; omega
        have d4 : decide ((N : Int) ≤ 150) = false := by simp; omega
        have hNb : ¬ N ≤ 150 := by omega
        have HNB := Lib.hid hNb
        clear hNb
        clear hlt
        go_wp2_with fail
        go_ret
        exact ⟨false, rfl, ⟨fun h => by simp at h, fun h => absurd h.1 HNB.out⟩, rfl⟩
      · obtain rfl : j = N := by omega
        have d1 : decide ((j : Int) < (j : Int)) = false := by simp
        clear hlt
        go_wp2_with fail
        go_ret
        refine ⟨_, rfl, ⟨fun hb => ⟨by simp at hb; omega, fun o ho => ?_⟩, fun hb => by have := hb.1; simp; omega⟩, rfl⟩
        obtain ⟨i, hi, rfl⟩ := List.getElem_of_mem ho
        exact HA.out i hi (by rw [HH.out.2.2] at hi; exact hi)

theorem light_yes {w : World} {v : Value} {os : List POp} (h : ReadsPOps w w.heap.size v os) (hl : os.length ≤ 9223372036854775807) (hok : ∀ o ∈ os, o.ok) (hy : os.length ≤ 150 ∧ ∀ o ∈ os, o.t.size ≤ 300) :
    Calls Tryz.prog 20 #[v] w fun e w' => e = .returned (.bool true) ∧ w = w' := by
  refine (light_any h hl hok).mono ?_
  rintro e w' ⟨b, rfl, hb, rfl⟩
  rw [hb.2 hy]
  exact ⟨rfl, rfl⟩
theorem light_no {w : World} {v : Value} {os : List POp} (h : ReadsPOps w w.heap.size v os) (hl : os.length ≤ 9223372036854775807) (hok : ∀ o ∈ os, o.ok) (hy : ¬ (os.length ≤ 150 ∧ ∀ o ∈ os, o.t.size ≤ 300)) :
    Calls Tryz.prog 20 #[v] w fun e w' => e = .returned (.bool false) ∧ w = w' := by
  refine (light_any h hl hok).mono ?_
  rintro e w' ⟨b, rfl, hb, rfl⟩
  cases b
  · exact ⟨rfl, rfl⟩
  · exact absurd (hb.1 rfl) hy

set_option maxRecDepth 1000000 in
set_option maxHeartbeats 2000000 in
theorem in_any {w : World} {F : List Nat} {v : Value} {L : List Int} (x : Int) (h : ReadsO F w v (L.map (.int .i64))) (hl : L.length ≤ 1000000) :
    Calls Tryz.prog 25 #[v, .int .i64 x] w fun e w' => e = .returned (.bool (decide (x ∈ L))) ∧ w = w' := by
  obtain ⟨A, c, rfl⟩ := h.form
  obtain ⟨N, hN⟩ : ∃ N, L.length = N := ⟨_, rfl⟩
  have HH := Lib.hid (And.intro h hN)
  rw [hN] at hl ⊢
  clear h hN
  go_enter Tryz.func25, Tryz.ntmps25
  go_wp2_with fail
  go_loopg [5] N (fun g iv wr => ∃ (j : Nat), iv = .int .i64 j ∧ j + g = N ∧ x ∉ L.take j ∧ w = wr)
  case atStart => exact ⟨0, rfl, by omega, by simp, rfl⟩
  case round =>
    obtain ⟨j, rfl, hjg, hni, hw⟩ := hrel
    subst hw
    have HA := Lib.hid hni
    clear hni
    by_cases hlt : j < N
    · have d1 : decide ((j : Int) < (N : Int)) = true := by simp; omega
      have hjl : j < L.length := by rw [HH.out.2]; exact hlt
      obtain ⟨b, off, c', hv, hck⟩ := HH.out.1.at j hjl
      simp only [Value.slice.injEq] at hv
      obtain ⟨rfl, _, rfl⟩ := hv
      have htk := take_snoc1 L j hjl
      have hmem : L[j] ∈ L := List.getElem_mem hjl
      have HT := Lib.hid (And.intro htk hmem)
      have hj0 : (0 : Int) ≤ (j : Int) := by omega
      have hj1 : (j : Int) < (N : Int) := by omega
      by_cases he : L[j] = x
      · have hb : (L[j] == x) = true := by simpa using he
        generalize L[j] = y at *
        clear htk hmem
        go_wp2_with fail
        go_ret
        exact ⟨ret_bool (by simp; rw [← he]; exact HT.out.2), rfl⟩
      · have hb : (L[j] == x) = false := by simpa using he
        generalize L[j] = y at *
        clear htk hmem
        go_wp2_with fail
        go_roundg (N - (j + 1))
        case measure => omega
        case rel =>
          refine ⟨j + 1, by go_num, by omega, ?_, rfl⟩
          rw [HT.out.1]
          simp
          exact ⟨HA.out, fun e => he e.symm⟩
    · obtain rfl : j = N := by omega
      have d1 : decide ((j : Int) < (j : Int)) = false := by simp
      have hfull : L.take j = L := List.take_of_length_le (by rw [HH.out.2]; exact Nat.le_refl _)
      clear hlt
      go_wp2_with fail
      go_ret
      exact ⟨ret_bool (by rw [← hfull]; simpa using HA.out), rfl⟩
end Go.Proofs.YtmcfldcpmjdfbaaGreatDoor

namespace Go.Proofs.YtmcfldcpmjdfbaaGreatDoor
open Go.RowKit Go.Sort Go.Lib

/-- The number that Make gives, and what it is taken from. -/
def Cand (s : PgS) (id : Int) (s1 : PgS) : Prop :=
  (∃ l, s.spare.Perm (id :: l) ∧ s1 = { s with spare := l }) ∨ (s.spare = [] ∧ ∃ l, s.l.Perm (id :: l) ∧ s1 = { s with l := l }) ∨
  (s.spare = [] ∧ s.l = [] ∧ id = s.pages ∧ ((s.pages < s.dev.pages.length ∧ s1 = { s with pages := s.pages + 1 }) ∨ (s.pages = s.dev.pages.length ∧ s.pages < s.dev.most ∧ s1 = { s with pages := s.pages + 1, dev := longer s.dev 1 })))
def MakeTo (s : PgS) (k n : Int) (t : ByteArray) (id r : Int) (s' : PgS) : Prop :=
  (r ≠ 0 ∧ id = 0 ∧ s' = s) ∨ (r = 0 ∧ sealE id k n t.size = 0 ∧ ∃ s1, Cand s id s1 ∧ s' = keptS s1 id ⟨1, k, n, t⟩)
def DropTo (s : PgS) (x : Int) (s' : PgS) : Prop :=
  s' = s ∨ (2 ≤ x ∧ x < s.pages ∧ (s.H x).fate ≠ 1 ∧ (s.H x).fate ≠ 2 ∧ (s.H x).fate ≠ 3 ∧ s' = keptS s x (chg0 2)) ∨
  ((s.H x).fate = 1 ∧ x < s.there ∧ s' = { keptS s x (chg0 3) with l := x :: s.l }) ∨ ((s.H x).fate = 1 ∧ s.there ≤ x ∧ s' = { keptS s x (chg0 3) with spare := x :: s.spare })

/-- What is asked of a pager that its calls may be told so. -/
structure PgOK (s : PgS) : Prop where
  idle : Idle s.dev
  lo : 2 ≤ s.pages
  len : s.pages ≤ s.dev.pages.length
  most : s.dev.pages.length ≤ s.dev.most
  few : s.dev.most ≤ 3000
  spare : ∀ x ∈ s.spare, 2 ≤ x ∧ x < s.pages
  free : ∀ x ∈ s.l, 2 ≤ x ∧ x < s.pages
  sizes : s.n ≤ 10000 ∧ s.spare.length ≤ 10000 ∧ s.l.length ≤ 10000
  body : ∀ x, (s.H x).body.size ≤ 1000
  place : ∀ x, (s.H x).fate = 1 → 2 ≤ x ∧ x < s.pages

section
variable {p pd pf b : Nat} {s : PgS} {F : List Nat} {w : World}
theorem gmake_any (k n : Int) (t : ByteArray) (ho : PgOK s) (hk : IsInt k) (hn : IsInt n) (hs : t.size ≤ 1000) (h : PgIs p pd pf b s F w) :
    Calls Tryz.prog 8 #[.pointer (some ⟨p, 0, none⟩), .agg #[.int .i64 k, .int .i64 n, .string t]] w fun e w' => ∃ id r s', e = .returned (.tuple #[.int .i64 id, .int .i64 r]) ∧ MakeTo s k n t id r s' ∧ ∃ F', PgIs p pd pf b s' F' w' ∧ Goes F w F' w' := by
  have hb := ho.few
  have hm := ho.most
  have hl := ho.len
  have hlo := ho.lo
  have hint : ∀ x, 2 ≤ x → x < s.pages → IsInt x := fun x a c => by unfold IsInt; omega
  have hip : IsInt s.pages := by unfold IsInt; omega
  have hz := ho.sizes
  by_cases hsp : s.spare = []
  · by_cases hfr : s.l = []
    · by_cases hse : sealE s.pages k n t.size = 0
      · by_cases h1 : s.pages < s.dev.pages.length
        · refine (gmake_ext k n t hsp hfr h (fun w1 hp1 => gextend_in k n t h1 hip hk hn (by omega) hse (by omega) hp1)).mono ?_
          rintro e w' ⟨rfl, h2⟩
          exact ⟨_, _, _, rfl, .inr ⟨rfl, hse, _, .inr (.inr ⟨hsp, hfr, rfl, .inl ⟨h1, rfl⟩⟩), rfl⟩, h2⟩
        · by_cases h3 : s.pages < s.dev.most
          · refine (gmake_ext k n t hsp hfr h (fun w1 hp1 => gextend_grow k n t (by omega) h3 ho.idle hip hk hn (by omega) hse (by omega) hp1)).mono ?_
            rintro e w' ⟨rfl, h2⟩
            exact ⟨_, _, _, rfl, .inr ⟨rfl, hse, _, .inr (.inr ⟨hsp, hfr, rfl, .inr ⟨by omega, h3, rfl⟩⟩), rfl⟩, h2⟩
          · refine (gmake_ext k n t hsp hfr h (fun w1 hp1 => gextend_full k n t (by omega) (by omega) ho.idle hip hk hn (by omega) hse hp1)).mono ?_
            rintro e w' ⟨rfl, h2⟩
            exact ⟨_, _, _, rfl, .inl ⟨by decide, rfl, rfl⟩, h2⟩
      · refine (gmake_ext (s' := s) (id := 0) (r := sealE s.pages k n t.size) k n t hsp hfr h (fun w1 hp1 => (gextend_bad k n t hip hk hn (by omega) hse hp1).mono fun e w' he => ⟨he.1, _, hp1.below he.2, goes_below he.2⟩)).mono ?_
        rintro e w' ⟨rfl, h2⟩
        exact ⟨_, _, _, rfl, .inl ⟨hse, rfl, rfl⟩, h2⟩
    · obtain ⟨x, l, hp, hle⟩ := int_least s.l hfr
      have hx := ho.free x (hp.mem_iff.2 (by simp))
      by_cases hse : sealE x k n t.size = 0
      · refine (gmake_free k n t hsp hp hle (hint x hx.1 hx.2) hk hn (by omega) hse (by omega) h).mono ?_
        rintro e w' ⟨rfl, h2⟩
        exact ⟨_, _, _, rfl, .inr ⟨rfl, hse, _, .inr (.inl ⟨hsp, l, hp, rfl⟩), rfl⟩, h2⟩
      · refine (gmake_free_bad k n t hsp hp hle (hint x hx.1 hx.2) hk hn (by omega) hse (by omega) h).mono ?_
        rintro e w' ⟨rfl, h2⟩
        exact ⟨_, _, _, rfl, .inl ⟨hse, rfl, rfl⟩, h2⟩
  · obtain ⟨x, l, hp, hle⟩ := int_least s.spare hsp
    have hx := ho.spare x (hp.mem_iff.2 (by simp))
    by_cases hse : sealE x k n t.size = 0
    · refine (gmake_spare k n t hp hle (hint x hx.1 hx.2) hk hn (by omega) hse (by omega) h).mono ?_
      rintro e w' ⟨rfl, h2⟩
      exact ⟨_, _, _, rfl, .inr ⟨rfl, hse, _, .inl ⟨l, hp, rfl⟩, rfl⟩, h2⟩
    · refine (gmake_spare_bad k n t hp hle (hint x hx.1 hx.2) hk hn (by omega) hse (by omega) h).mono ?_
      rintro e w' ⟨rfl, h2⟩
      exact ⟨_, _, _, rfl, .inl ⟨hse, rfl, rfl⟩, h2⟩

theorem gdrop_any (x : Int) (hx : IsInt x) (ho : PgOK s) (h : PgIs p pd pf b s F w) :
    Calls Tryz.prog 13 #[.pointer (some ⟨p, 0, none⟩), .int .i64 x] w fun e w' => ∃ g s', e = .returned (.int .i64 g) ∧ DropTo s x s' ∧ ∃ F', PgIs p pd pf b s' F' w' ∧ Goes F w F' w' := by
  have hz := ho.sizes
  have hbd := ho.body x
  by_cases hf : (s.H x).fate = 1
  · obtain ⟨a, c⟩ := ho.place x hf
    by_cases ht : x < s.there
    · refine (gdrop_below x a c hf (by omega) ht hx (by omega) (by omega) h).mono ?_
      rintro e w' ⟨rfl, h2⟩
      exact ⟨_, _, rfl, .inr (.inr (.inl ⟨hf, ht, rfl⟩)), h2⟩
    · refine (gdrop_beyond x a c hf (by omega) (by omega) hx (by omega) (by omega) h).mono ?_
      rintro e w' ⟨rfl, h2⟩
      exact ⟨_, _, rfl, .inr (.inr (.inr ⟨hf, by omega, rfl⟩)), h2⟩
  · refine (gdrop_other x hf hx (by omega) h ((gread_any x hx (by omega) h).mono fun e w' he => ⟨by obtain ⟨⟨k, n, t, g, h1, h2, _⟩, _⟩ := he; exact ⟨k, n, t, g, h1, h2⟩, he.2⟩)).mono ?_
    rintro e w' ⟨g, rfl, h1, h2⟩
    rcases h1 with ⟨_, h1⟩ | ⟨_, a, c, f2, f3, h1⟩
    · exact ⟨_, _, rfl, .inl rfl, _, h1, h2⟩
    · exact ⟨_, _, rfl, .inr (.inl ⟨a, c, hf, f2, f3, rfl⟩), _, h1, h2⟩
end

theorem seal_le {x k n : Int} {t : ByteArray} (h : sealE x k n t.size = 0) : t.size ≤ 1000 := by have := seal_small h; omega

/-- What is asked stays so. -/
theorem PgOK.made {s s' : PgS} {k n id r : Int} {t : ByteArray} (h : PgOK s) (hm : MakeTo s k n t id r s') (hn : s.n < 9000 ∧ s.spare.length < 9000 ∧ s.l.length < 9000) : PgOK s' := by
  rcases hm with ⟨_, _, rfl⟩ | ⟨_, hse, s1, hc, rfl⟩
  · exact h
  · have hbody : ∀ (H : Int → Chg), (∀ x, (H x).body.size ≤ 1000) → ∀ x, ((upd H id ⟨1, k, n, t⟩) x).body.size ≤ 1000 := fun H hH x => by
      by_cases e : x = id
      · subst e
        rw [upd_same]
        exact seal_le hse
      · rw [upd_other _ _ e]
        exact hH x
    have hplace : ∀ (H : Int → Chg) (q : Int), (2 ≤ id ∧ id < q) → (∀ x, (H x).fate = 1 → 2 ≤ x ∧ x < q) → ∀ x, ((upd H id ⟨1, k, n, t⟩) x).fate = 1 → 2 ≤ x ∧ x < q := fun H q hid hH x hx => by
      by_cases e : x = id
      · subst e
        exact hid
      · rw [upd_other _ _ e] at hx
        exact hH x hx
    rcases hc with ⟨l, hp, rfl⟩ | ⟨hsp, l, hp, rfl⟩ | ⟨hsp, hfr, rfl, h1⟩
    · have hl := hp.length_eq
      simp at hl
      exact ⟨h.idle, h.lo, h.len, h.most, h.few, fun x hx => h.spare x (hp.mem_iff.2 (List.mem_cons_of_mem _ hx)), h.free, ⟨by show s.n + 1 ≤ _; omega, by show l.length ≤ _; omega, by show s.l.length ≤ _; omega⟩, hbody _ h.body, hplace _ _ (h.spare id (hp.mem_iff.2 (by simp))) h.place⟩
    · have hl := hp.length_eq
      simp at hl
      exact ⟨h.idle, h.lo, h.len, h.most, h.few, h.spare, fun x hx => h.free x (hp.mem_iff.2 (List.mem_cons_of_mem _ hx)), ⟨by show s.n + 1 ≤ _; omega, by show s.spare.length ≤ _; omega, by show l.length ≤ _; omega⟩, hbody _ h.body, hplace _ _ (h.free id (hp.mem_iff.2 (by simp))) h.place⟩
    · have hlo := h.lo
      have hpl := hplace s.H (s.pages + 1) (by omega) (fun x hx => by have := h.place x hx; omega)
      rcases h1 with ⟨a, rfl⟩ | ⟨a, c, rfl⟩
      · exact ⟨h.idle, by show 2 ≤ s.pages + 1; omega, by show s.pages + 1 ≤ (s.dev.pages.length : Int); omega, h.most, h.few, fun x hx => by have := h.spare x hx; show _ ∧ x < s.pages + 1; omega, fun x hx => by have := h.free x hx; show _ ∧ x < s.pages + 1; omega, ⟨by show s.n + 1 ≤ _; omega, by show s.spare.length ≤ _; omega, by show s.l.length ≤ _; omega⟩, hbody _ h.body, hpl⟩
      · refine ⟨longer_idle h.idle 1, by show 2 ≤ s.pages + 1; omega, ?_, ?_, h.few, fun x hx => by have := h.spare x hx; show _ ∧ x < s.pages + 1; omega, fun x hx => by have := h.free x hx; show _ ∧ x < s.pages + 1; omega, ⟨by show s.n + 1 ≤ _; omega, by show s.spare.length ≤ _; omega, by show s.l.length ≤ _; omega⟩, hbody _ h.body, hpl⟩
        · show s.pages + 1 ≤ ((longer s.dev 1).pages.length : Int)
          rw [longer_len]
          omega
        · show ((longer s.dev 1).pages.length : Int) ≤ s.dev.most
          rw [longer_len]
          omega
theorem PgOK.dropped {s s' : PgS} {x : Int} (h : PgOK s) (hd : DropTo s x s') (hn : s.n < 9000 ∧ s.spare.length < 9000 ∧ s.l.length < 9000) : PgOK s' := by
  have hbody : ∀ f, ∀ y, ((upd s.H x (chg0 f)) y).body.size ≤ 1000 := fun f y => by
    by_cases e : y = x
    · subst e
      rw [upd_same]
      show (⟨#[]⟩ : ByteArray).size ≤ 1000
      decide
    · rw [upd_other _ _ e]
      exact h.body y
  have hplace : ∀ f, f ≠ 1 → ∀ y, ((upd s.H x (chg0 f)) y).fate = 1 → 2 ≤ y ∧ y < s.pages := fun f hf y hy => by
    by_cases e : y = x
    · subst e
      rw [upd_same] at hy
      exact absurd hy hf
    · rw [upd_other _ _ e] at hy
      exact h.place y hy
  rcases hd with rfl | ⟨_, _, _, _, _, rfl⟩ | ⟨hf, _, rfl⟩ | ⟨hf, _, rfl⟩
  · exact h
  · exact ⟨h.idle, h.lo, h.len, h.most, h.few, h.spare, h.free, ⟨by show s.n + 1 ≤ _; omega, by show s.spare.length ≤ _; omega, by show s.l.length ≤ _; omega⟩, hbody 2, hplace 2 (by decide)⟩
  · exact ⟨h.idle, h.lo, h.len, h.most, h.few, h.spare, fun y hy => by rcases List.mem_cons.1 hy with rfl | hy; exact h.place _ hf; exact h.free y hy, ⟨by show s.n + 1 ≤ _; omega, by show s.spare.length ≤ _; omega, by show (x :: s.l).length ≤ _; simp; omega⟩, hbody 3, hplace 3 (by decide)⟩
  · exact ⟨h.idle, h.lo, h.len, h.most, h.few, fun y hy => by rcases List.mem_cons.1 hy with rfl | hy; exact h.place _ hf; exact h.spare y hy, h.free, ⟨by show s.n + 1 ≤ _; omega, by show (x :: s.spare).length ≤ _; simp; omega, by show s.l.length ≤ _; omega⟩, hbody 3, hplace 3 (by decide)⟩
theorem make_sizes {s s' : PgS} {k n id r : Int} {t : ByteArray} (hm : MakeTo s k n t id r s') : s'.n ≤ s.n + 1 ∧ s'.spare.length ≤ s.spare.length + 1 ∧ s'.l.length ≤ s.l.length + 1 := by
  rcases hm with ⟨_, _, rfl⟩ | ⟨_, hse, s1, hc, rfl⟩
  · omega
  · rcases hc with ⟨l, hp, rfl⟩ | ⟨hsp, l, hp, rfl⟩ | ⟨hsp, hfr, rfl, h1⟩
    · have hl := hp.length_eq
      simp at hl
      simp only [keptS]
      omega
    · have hl := hp.length_eq
      simp at hl
      simp only [keptS]
      omega
    · rcases h1 with ⟨a, rfl⟩ | ⟨a, c, rfl⟩ <;> simp only [keptS] <;> omega
theorem drop_sizes {s s' : PgS} {x : Int} (hd : DropTo s x s') : s'.n ≤ s.n + 1 ∧ s'.spare.length ≤ s.spare.length + 1 ∧ s'.l.length ≤ s.l.length + 1 := by
  rcases hd with rfl | ⟨_, _, _, _, _, rfl⟩ | ⟨hf, _, rfl⟩ | ⟨hf, _, rfl⟩
  · omega
  · simp only [keptS]
    omega
  · simp only [keptS, List.length_cons]
    omega
  · simp only [keptS, List.length_cons]
    omega
end Go.Proofs.YtmcfldcpmjdfbaaGreatDoor

namespace Go.Proofs.YtmcfldcpmjdfbaaGreatDoor
open Go.RowKit Go.Sort Go.Lib

theorem mixB_full {old data : ByteArray} (h : data.size = 256) : mixB old data 255 = data := by
  have hl : data.data.toList.length = 256 := by simpa using h
  unfold mixB
  rw [mixL_full hl (by decide)]
theorem sync_keeps (q : Nat) (d : ByteArray) : ∀ (r : List (Int × ByteArray)) (i : Nat) (s : DevS), (∀ x ∈ r, x.2.size = 256) → (∀ x ∈ r, x.1.toNat = q → x.2 = d) → s.pages[q]? = some d → (settled (fun _ => 255) i r s).pages[q]? = some d
  | [], _, _, _, _, h => h
  | (n, b) :: r, i, s, h1, h2, h => by
    unfold settled
    refine sync_keeps q d r (i + 1) _ (fun x hx => h1 x (by simp [hx])) (fun x hx => h2 x (by simp [hx])) ?_
    simp only [settle1]
    rw [mixB_full (h1 (n, b) (by simp))]
    by_cases e : n.toNat = q
    · have hb := h2 (n, b) (by simp) e
      simp only at hb
      subst hb
      have hlt : q < s.pages.length := (List.getElem?_eq_some_iff.1 h).1
      rw [e, List.getElem?_set_self hlt]
    · rw [List.getElem?_set_ne e]
      exact h

/-- The old content of a page. -/
def oldB (i : Int) : ByteArray := sealC i ⟨1, 2, 0, ⟨#[111, 108, 100]⟩⟩

/-- A device that stands by: no fuse, so many writes at most, that of some pages only one content was written. -/
structure KD (q : Int) (was : List Int) (d : DevS) (n : Nat) : Prop where
  few : FewD d n
  ok : DevOK d
  most : d.most = 60
  len : q ≤ d.pages.length
  top : d.pages.length ≤ 60
  old : ∀ i : Nat, 2 ≤ (i : Int) → (i : Int) < q → (i : Int) ∉ was → d.pages[i]? = some (oldB i)
  line : ∀ x ∈ d.line, ∀ i : Nat, x.1.toNat = i → 2 ≤ (i : Int) → (i : Int) < q → (i : Int) ∉ was → x.2 = oldB i

theorem KD.sync {q : Int} {was : List Int} {d : DevS} {n : Nat} (h : KD q was d n) (hs : DevOK (syncedS d)) : KD q was (syncedS d) n where
  few := ⟨synced_idle h.few.idle, by
    have := (settled_flags (fun _ => 255) d.line 0 d).2.2.2.1
    show (settled (fun _ => 255) 0 d.line d).line.length ≤ n
    rw [this]
    exact Nat.zero_le _, by
    have := (settled_flags (fun _ => 255) d.line 0 d).2.2.2.2.2.2
    show (settled (fun _ => 255) 0 d.line d).cap ≤ _
    rw [this]
    exact h.few.cap⟩
  ok := hs
  most := by
    have := (settled_flags (fun _ => 255) d.line 0 d).2.2.1
    show (settled (fun _ => 255) 0 d.line d).most = 60
    rw [this, h.most]
  len := by
    have := (settled_flags (fun _ => 255) d.line 0 d).2.2.2.2.1
    show q ≤ ((settled (fun _ => 255) 0 d.line d).pages.length : Int)
    rw [this]
    exact h.len
  top := by
    have := (settled_flags (fun _ => 255) d.line 0 d).2.2.2.2.1
    show (settled (fun _ => 255) 0 d.line d).pages.length ≤ 60
    rw [this]
    exact h.top
  old := fun i a b c => sync_keeps i (oldB i) d.line 0 d (fun x hx => (h.ok.line x hx).2.2) (fun x hx e => h.line x hx i e a b c) (h.old i a b c)
  line := fun x hx => by
    have := (settled_flags (fun _ => 255) d.line 0 d).2.2.2.1
    have hx' : x ∈ (settled (fun _ => 255) 0 d.line d).line := hx
    rw [this] at hx'
    simp at hx'
theorem KD.wrote {q : Int} {was : List Int} {d : DevS} {n : Nat} (h : KD q was d n) {x : Int} {b : ByteArray} (h0 : 0 ≤ x) (hf : faultE d x b = 0) (hb : ∀ i : Nat, x = i → 2 ≤ (i : Int) → (i : Int) < q → (i : Int) ∉ was → b = oldB i) : KD q was (wroteS d x b) (n + 1) where
  few := h.few.wrote x b
  ok := wrote_ok h.ok hf
  most := h.most
  len := by rw [wrote_len]; exact h.len
  top := by rw [wrote_len]; exact h.top
  old := fun i a1 a2 a3 => by
    have h1 := h.old i a1 a2 a3
    have hlt : i < d.pages.length := (List.getElem?_eq_some_iff.1 h1).1
    simp only [wroteS]
    by_cases e : x.toNat = i
    · rw [e, List.getElem?_set_self hlt, hb i (by omega) a1 a2 a3]
    · rw [List.getElem?_set_ne e]
      exact h1
  line := fun y hy i e a1 a2 a3 => by
    have hy' : y ∈ d.line ++ [(x, b)] := hy
    rcases List.mem_append.1 hy' with h1 | h1
    · exact h.line y h1 i e a1 a2 a3
    · simp at h1
      subst h1
      exact hb i (by simp at e; omega) a1 a2 a3
theorem KD.longer {q : Int} {was : List Int} {d : DevS} {n : Nat} (h : KD q was d n) (hl : d.pages.length + 1 ≤ 60) : KD q was (longer d 1) n where
  few := ⟨longer_idle h.few.idle 1, h.few.line, h.few.cap⟩
  ok := longer_ok h.ok (by omega)
  most := h.most
  len := by rw [longer_len]; have := h.len; omega
  top := by rw [longer_len]; omega
  old := fun i a1 a2 a3 => by
    have h1 := h.old i a1 a2 a3
    have hlt : i < d.pages.length := (List.getElem?_eq_some_iff.1 h1).1
    simp only [Go.Proofs.YtmcfldcpmjdfbaaGreatDoor.longer]
    rw [List.getElem?_append_left hlt]
    exact h1
  line := h.line

/-- What is kept behind so many things that are done. -/
structure KS (q : Int) (was : List Int) (k0 : Nat) (s : PgS) (i : Nat) : Prop where
  ok : PgOK s
  few : s.n ≤ i ∧ s.spare.length ≤ i ∧ s.l.length ≤ 30 + i
  wait : s.m = []
  seq : s.sq = 0
  there : s.there = q
  pages : q ≤ s.pages
  dev : KD q was s.dev k0
  far : ∀ x ∈ s.spare, q ≤ x
  sub : ∀ x ∈ s.l, x ∈ was
  made : ∀ x, (s.H x).fate = 1 → (x ∈ was ∨ q ≤ x) ∧ IsInt (s.H x).kind ∧ IsInt (s.H x).next ∧ sealE x (s.H x).kind (s.H x).next (s.H x).body.size = 0

theorem KS.new {q : Int} {was : List Int} {d : DevS} {k0 : Nat} (h : KD q was d k0) (hq : 2 ≤ q) (_hok : DevOK d) (hl : ∀ x ∈ was, 2 ≤ x ∧ x < q) (hw : was.length ≤ 30) : KS q was k0 (newPg d was 0 [] [] q 5) 0 where
  ok := ⟨h.few.idle, hq, h.len, by have hm : (newPg d was 0 [] [] q 5).dev.most = 60 := h.most
                                   have hp : (newPg d was 0 [] [] q 5).dev.pages.length ≤ 60 := h.top
                                   omega, by have hm : (newPg d was 0 [] [] q 5).dev.most = 60 := h.most
                                             omega,
    fun x hx => absurd hx (by simp [newPg]), hl, ⟨Nat.zero_le _, Nat.zero_le _, by show was.length ≤ 10000; omega⟩, fun x => by show (⟨#[]⟩ : ByteArray).size ≤ 1000; decide, fun x hx => absurd hx (by show ¬ (0 : Int) = 1; decide)⟩
  few := ⟨Nat.le_refl _, Nat.le_refl _, by show was.length ≤ 30 + 0; omega⟩
  wait := rfl
  seq := rfl
  there := rfl
  pages := Int.le_refl _
  dev := h
  far := fun x hx => absurd hx (by simp [newPg])
  sub := fun x hx => hx
  made := fun x hx => absurd hx (by show ¬ (0 : Int) = 1; decide)

section
variable {q : Int} {was : List Int} {k0 : Nat} {s s' : PgS} {i : Nat}
theorem KS.make {k n id r : Int} {t : ByteArray} (h : KS q was k0 s i) (hk : IsInt k) (hn : IsInt n) (hi : i ≤ 1000) (hm : MakeTo s k n t id r s') : KS q was k0 s' (i + 1) ∧ (r = 0 → (id ∈ was ∨ q ≤ id) ∧ s'.H id = ⟨1, k, n, t⟩ ∧ 2 ≤ id ∧ id < s'.pages) := by
  have hz := make_sizes hm
  have hf := h.few
  have hok := h.ok.made hm (by omega)
  have hfew : s'.n ≤ i + 1 ∧ s'.spare.length ≤ i + 1 ∧ s'.l.length ≤ 30 + (i + 1) := by omega
  rcases hm with ⟨hr, _, rfl⟩ | ⟨_, hse, s1, hc, rfl⟩
  · exact ⟨⟨hok, hfew, h.wait, h.seq, h.there, h.pages, h.dev, h.far, h.sub, h.made⟩, fun h0 => absurd h0 hr⟩
  · have hmade : (id ∈ was ∨ q ≤ id) → ∀ x, ((upd s.H id ⟨1, k, n, t⟩) x).fate = 1 → (x ∈ was ∨ q ≤ x) ∧ IsInt ((upd s.H id ⟨1, k, n, t⟩) x).kind ∧ IsInt ((upd s.H id ⟨1, k, n, t⟩) x).next ∧ sealE x ((upd s.H id ⟨1, k, n, t⟩) x).kind ((upd s.H id ⟨1, k, n, t⟩) x).next ((upd s.H id ⟨1, k, n, t⟩) x).body.size = 0 := fun hid x hx => by
      by_cases e : x = id
      · subst e
        rw [upd_same] at hx ⊢
        exact ⟨hid, hk, hn, hse⟩
      · rw [upd_other _ _ e] at hx ⊢
        exact h.made x hx
    rcases hc with ⟨l, hp, rfl⟩ | ⟨hsp, l, hp, rfl⟩ | ⟨hsp, hfr', rfl, h1⟩
    · have hid := h.far id (hp.mem_iff.2 (by simp))
      have h2 := h.ok.spare id (hp.mem_iff.2 (by simp))
      exact ⟨⟨hok, hfew, h.wait, h.seq, h.there, h.pages, h.dev, fun x hx => h.far x (hp.mem_iff.2 (List.mem_cons_of_mem _ hx)), h.sub, hmade (.inr hid)⟩, fun _ => ⟨.inr hid, upd_same _ _ _, h2⟩⟩
    · have hid := h.sub id (hp.mem_iff.2 (by simp))
      have h2 := h.ok.free id (hp.mem_iff.2 (by simp))
      exact ⟨⟨hok, hfew, h.wait, h.seq, h.there, h.pages, h.dev, h.far, fun x hx => h.sub x (hp.mem_iff.2 (List.mem_cons_of_mem _ hx)), hmade (.inl hid)⟩, fun _ => ⟨.inl hid, upd_same _ _ _, h2⟩⟩
    · have hpg := h.pages
      have hlo := h.ok.lo
      rcases h1 with ⟨a, rfl⟩ | ⟨a, c, rfl⟩
      · exact ⟨⟨hok, hfew, h.wait, h.seq, h.there, by show q ≤ s.pages + 1; omega, h.dev, h.far, h.sub, hmade (.inr hpg)⟩, fun _ => ⟨.inr hpg, upd_same _ _ _, hlo, by show s.pages < s.pages + 1; omega⟩⟩
      · exact ⟨⟨hok, hfew, h.wait, h.seq, h.there, by show q ≤ s.pages + 1; omega, h.dev.longer (by have := h.dev.most; omega), h.far, h.sub, hmade (.inr hpg)⟩, fun _ => ⟨.inr hpg, upd_same _ _ _, hlo, by show s.pages < s.pages + 1; omega⟩⟩

theorem KS.drop {x0 : Int} (h : KS q was k0 s i) (hi : i ≤ 1000) (hd : DropTo s x0 s') : KS q was k0 s' (i + 1) := by
  have hz := drop_sizes hd
  have hf := h.few
  have hok := h.ok.dropped hd (by omega)
  have hfew : s'.n ≤ i + 1 ∧ s'.spare.length ≤ i + 1 ∧ s'.l.length ≤ 30 + (i + 1) := by omega
  have hmade : ∀ f, f ≠ 1 → ∀ x, ((upd s.H x0 (chg0 f)) x).fate = 1 → (x ∈ was ∨ q ≤ x) ∧ IsInt ((upd s.H x0 (chg0 f)) x).kind ∧ IsInt ((upd s.H x0 (chg0 f)) x).next ∧ sealE x ((upd s.H x0 (chg0 f)) x).kind ((upd s.H x0 (chg0 f)) x).next ((upd s.H x0 (chg0 f)) x).body.size = 0 := fun f hf x hx => by
    by_cases e : x = x0
    · subst e
      rw [upd_same] at hx
      exact absurd hx hf
    · rw [upd_other _ _ e] at hx ⊢
      exact h.made x hx
  rcases hd with rfl | ⟨_, _, f1, _, _, rfl⟩ | ⟨f1, hth, rfl⟩ | ⟨f1, hth, rfl⟩
  · exact ⟨hok, hfew, h.wait, h.seq, h.there, h.pages, h.dev, h.far, h.sub, h.made⟩
  · exact ⟨hok, hfew, h.wait, h.seq, h.there, h.pages, h.dev, h.far, h.sub, hmade 2 (by decide)⟩
  · refine ⟨hok, hfew, h.wait, h.seq, h.there, h.pages, h.dev, h.far, fun x hx => ?_, hmade 3 (by decide)⟩
    rcases List.mem_cons.1 hx with rfl | hx
    · rw [h.there] at hth
      exact (h.made _ f1).1.elim id (fun h => by omega)
    · exact h.sub x hx
  · refine ⟨hok, hfew, h.wait, h.seq, h.there, h.pages, h.dev, fun x hx => ?_, h.sub, hmade 3 (by decide)⟩
    rcases List.mem_cons.1 hx with rfl | hx
    · rw [h.there] at hth
      exact hth
    · exact h.far x hx
theorem KS.step (h : KS q was k0 s i) : KS q was k0 s (i + 1) := ⟨h.ok, by have := h.few; omega, h.wait, h.seq, h.there, h.pages, h.dev, h.far, h.sub, h.made⟩
theorem KS.madeOK (h : KS q was k0 s i) : MadeOK s := ⟨fun x hx => ⟨(h.made x hx).2.1, (h.made x hx).2.2.1⟩, fun x hx => (h.made x hx).2.2.2, fun x hx => h.ok.place x hx, h.ok.len⟩

/-- What a Flush writes leaves those pages. -/
theorem KS.wrote (h : KS q was k0 s i) : ∀ (L : List Int) {d : DevS} {n : Nat} (_ : KD q was d n) (_ : s.pages ≤ d.pages.length) (_ : ∀ x ∈ L, (s.H x).fate = 1), KD q was (wroteL s.H d L) (n + L.length)
  | [], _, _, hd, _, _ => hd
  | x :: L, d, n, hd, hl, hL => by
    have hx := hL x (by simp)
    obtain ⟨m1, m2, m3, m4⟩ := h.made x hx
    have hp := h.ok.place x hx
    have hf : faultE d x (sealC x (s.H x)) = 0 := by
      unfold faultE
      rw [if_pos (by omega), if_pos (seal_size m4)]
    have h1 := hd.wrote (by omega) hf (fun j e a1 a2 a3 => by
      subst e
      exact m1.elim (fun h => absurd h a3) (fun h => by omega))
    have h2 := KS.wrote h L h1 (by rw [wrote_len]; exact hl) (fun y hy => hL y (by simp [hy]))
    rw [List.length_cons, show n + (L.length + 1) = n + 1 + L.length by omega]
    exact h2
end
end Go.Proofs.YtmcfldcpmjdfbaaGreatDoor
