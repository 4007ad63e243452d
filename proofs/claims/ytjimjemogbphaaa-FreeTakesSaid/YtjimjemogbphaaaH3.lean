/-
  container/heap, of whatever lies behind the interface: Init, Push, Pop, Remove.
-/
import Derived.Test.YtjimjemogbphaaaH2
namespace Go.Proofs.Ytjimjemogbphaaa
open Go.RowKit Go.Sort

section
variable {T : TypeId} {rv : Value} {fl fe fs fp fo : Nat} {α : Type} [Inhabited α] {lt : α → α → Bool} {box : α → Value} {At : World → List Nat → Array α → Prop}

/-- What a call leaves: a heap of what stands in l. -/
def HeapOf (lt : α → α → Bool) (At : World → List Nat → Array α → Prop) (F : List Nat) (l : List α) (w' : World) : Prop := ∃ b, At w' F b ∧ HeapFrom lt b b.size 0 ∧ b.toList.Perm l
def PushEnd (lt : α → α → Bool) (At : World → List Nat → Array α → Prop) (w : World) (F : List Nat) (l : List α) (w' : World) : Prop := ∃ F', HeapOf lt At F' l w' ∧ Goes F w F' w'
def KeptEnd (lt : α → α → Bool) (At : World → List Nat → Array α → Prop) (w : World) (F : List Nat) (l : List α) (w' : World) : Prop := HeapOf lt At F l w' ∧ Kept F w w'

set_option maxRecDepth 100000 in
set_option maxHeartbeats 1000000 in
theorem hpush_at (O : HO T rv fl fe fs fp fo lt box At) {w : World} {F : List Nat} {a : Array α} (x : α) (h : At w F a) (hh : HeapFrom lt a a.size 0) (hs : a.size < 1000000) :
    Calls Try.prog 30 #[.iface T rv, box x] w fun e w' => e = .returned (.tuple #[]) ∧ PushEnd lt At w F (x :: a.toList) w' := by
  have mLen := O.mLen; have mPush := O.mPush; have eLen := O.eLen; have ePush := O.ePush
  have hp := O.push x h hs
  have HO' := Lib.hid O
  have HH := Lib.hid hh
  clear h hh O
  generalize hbx : box x = bx at *
  clear hbx
  go_enter Try.func30, Try.ntmps30
  go_wp2_with fail
  refine hp.mono ?_
  rintro e w1 ⟨rfl, F', ha1, hg1⟩
  have hl1 := HO'.out.len ha1
  obtain ⟨n, hn⟩ : ∃ n, n = a.size := ⟨_, rfl⟩
  rw [show (a.push x).size = n + 1 by simp [hn]] at hl1
  have HA := Lib.hid (And.intro ha1 (And.intro hg1 hn))
  have hnb : n < 1000000 := by omega
  clear ha1 hg1 hn hp hs
  go_wp2_with fail
  refine hl1.mono ?_
  rintro e w' ⟨rfl, rfl⟩
  clear hl1
  have hup := up_at HO'.out (n + 1) n HA.out.1 (by simp [HA.out.2.2]) (by omega) (by rw [HA.out.2.2]; have h := HeapFrom.push HH.out x; rwa [Array.size_push] at h)
  go_wp2_with fail
  refine hup.mono ?_
  rintro e w2 ⟨rfl, b, hs, hb, hab, hk⟩
  have HE := Lib.hid (And.intro hs (And.intro hb (And.intro hab hk)))
  clear hs hb hab hk hup
  go_wp2_with fail
  go_end0
  obtain ⟨hs, hb, hab, hk⟩ := HE.out
  have hz : b.size = n + 1 := by rw [hs.size, Array.size_push, HA.out.2.2]
  refine ⟨rfl, F', ⟨b, hab, by rw [hz]; exact hb, hs.perm.trans ?_⟩, HA.out.2.1.trans ⟨hk, fun k hk => .inl hk⟩⟩
  rw [Array.toList_push]
  exact List.perm_append_singleton _ _

theorem get_last {α : Type} [Inhabited α] (a b : Array α) (n : Nat) (h : Sifted a b n) : b[n]! = a[n]! := h.rest n (Nat.le_refl _)

set_option maxRecDepth 100000 in
set_option maxHeartbeats 1000000 in
theorem hpop_at (O : HO T rv fl fe fs fp fo lt box At) {w : World} {F : List Nat} {a : Array α} (l : List α) (h : At w F a) (hh : HeapFrom lt a a.size 0) (hs : 0 < a.size) (hl : a.toList.Perm (a[0]! :: l)) :
    Calls Try.prog 31 #[.iface T rv] w fun e w' => e = .returned (box a[0]!) ∧ KeptEnd lt At w F l w' := by
  have mLen := O.mLen; have mSwap := O.mSwap; have mPop := O.mPop; have eLen := O.eLen; have eSwap := O.eSwap; have ePop := O.ePop
  obtain ⟨n, hn⟩ : ∃ n, a.size = n + 1 := ⟨a.size - 1, by omega⟩
  have hln := O.len h
  rw [hn] at hln
  have hnb : n < 1000000 := by have := O.few h; omega
  have hsw := O.swap 0 n h (by omega) (by omega)
  have hdi : DownInv lt (swp a 0 n) n 0 0 0 := by
    rcases Nat.eq_zero_or_pos n with h0 | h0
    · subst h0
      exact ⟨Nat.le_refl _, fun k k0 kn => by omega, fun h0 => by omega⟩
    · have := hh.replaced O.swo 0 (by omega)
      rwa [hn] at this
  have HO' := Lib.hid O
  have HH := Lib.hid (And.intro hn (And.intro hdi hl))
  clear h hh O hn hdi hl hs
  go_enter Try.func31, Try.ntmps31
  go_wp2_with fail
  refine hln.mono ?_
  rintro e w' ⟨rfl, rfl⟩
  clear hln
  go_wp2_with fail
  refine hsw.mono ?_
  rintro e w1 ⟨rfl, ha, hk⟩
  have hdo := down_at HO'.out n 0 0 ha (by rw [size_swp, HH.out.1]; omega) (by omega) (Nat.le_refl _) HH.out.2.1
  have HK := Lib.hid hk
  clear ha hk hsw
  go_wp2_with fail
  refine hdo.mono ?_
  rintro e w2 ⟨b, i, rfl, hs, hu, hc, ha, hk⟩
  have hbz : b.size = n + 1 := by rw [hs.size, size_swp, HH.out.1]
  have hpo := HO'.out.pop ha (by omega)
  have hb : HeapFrom lt b n 0 := hu.done hc (.inr (.inl rfl))
  have he : b[b.size - 1]! = a[0]! := by
    rw [hbz, Nat.add_sub_cancel, hs.rest n (Nat.le_refl _), swp_get a (by rw [HH.out.1]; omega) (by rw [HH.out.1]; omega), if_pos rfl]
  rw [he] at hpo
  have HB := Lib.hid (And.intro hs (And.intro hb (And.intro hk hbz)))
  clear hs hb hk hbz hu hc ha hdo he
  go_wp2_with fail
  refine hpo.mono ?_
  rintro e w3 ⟨rfl, ha, hk⟩
  have HC := Lib.hid (And.intro ha hk)
  clear ha hk hpo
  go_wp2_with fail
  go_ret
  obtain ⟨hs, hb, hk2, hbz⟩ := HB.out
  refine ⟨rfl, ⟨b.pop, HC.out.1, HeapFrom.pop (by rw [hbz, Nat.add_sub_cancel]; exact hb), ?_⟩, (HK.out.trans hk2).trans HC.out.2⟩
  have hg := perm_gone (a := a) (b := b) 0 (by rw [HH.out.1]; omega) (by rw [hbz, HH.out.1]) (by rw [HH.out.1, Nat.add_sub_cancel]; exact hs.perm) (by rw [HH.out.1, Nat.add_sub_cancel]; exact hs.rest n (Nat.le_refl _))
  exact List.Perm.cons_inv (hg.symm.trans HH.out.2.2)

set_option maxRecDepth 100000 in
set_option maxHeartbeats 1000000 in
theorem hremove_at (O : HO T rv fl fe fs fp fo lt box At) {w : World} {F : List Nat} {a : Array α} (l : List α) (i : Nat) (h : At w F a) (hh : HeapFrom lt a a.size 0) (hi : i < a.size) (hl : a.toList.Perm (a[i]! :: l)) :
    Calls Try.prog 33 #[.iface T rv, .int .i64 i] w fun e w' => e = .returned (box a[i]!) ∧ KeptEnd lt At w F l w' := by
  have mLen := O.mLen; have mSwap := O.mSwap; have mPop := O.mPop; have eLen := O.eLen; have eSwap := O.eSwap; have ePop := O.ePop
  obtain ⟨n, hn⟩ : ∃ n, a.size = n + 1 := ⟨a.size - 1, by omega⟩
  have hln := O.len h
  rw [hn] at hln
  have hnb : n < 1000000 := by have := O.few h; omega
  have hib : i ≤ 1000000 := by omega
  have HO' := Lib.hid O
  rcases Nat.lt_or_ge i n with hin | hin
  · have hne : ((n : Int) != i) = true := by simp; omega
    have hsw := O.swap i n h hi (by omega)
    have hdi : DownInv lt (swp a i n) n 0 i i := by
      have := hh.replaced O.swo i (by omega)
      rwa [hn, Nat.add_sub_cancel] at this
    have HH := Lib.hid (And.intro hn (And.intro hdi (And.intro hl hin)))
    clear h hh O hn hdi hl hi
    go_enter Try.func33, Try.ntmps33
    go_wp2_with fail
    refine hln.mono ?_
    rintro e w' ⟨rfl, rfl⟩
    clear hln
    go_wp2_with fail
    refine hsw.mono ?_
    rintro e w1 ⟨rfl, ha, hk⟩
    have hdo := down_at HO'.out n 0 i ha (by rw [size_swp, HH.out.1]; omega) (by omega) (Nat.zero_le _) HH.out.2.1
    have HK := Lib.hid hk
    clear ha hk hsw
    go_wp2_with fail
    refine hdo.mono ?_
    rintro e w2 ⟨b, i2, rfl, hs, hu, hc, ha, hk⟩
    have hbz : b.size = n + 1 := by rw [hs.size, size_swp, HH.out.1]
    have hii := hu.le
    cases hmv : decide (i < i2)
    · obtain rfl : i2 = i := by have : ¬ i < i2 := by simpa using hmv
                                omega
      have hup := up_at HO'.out n i2 ha (by omega) hin (hu.stays hc)
      have HB := Lib.hid (And.intro hs (And.intro hk hbz))
      clear hs hk hbz hu hc ha hdo hii hmv
      go_wp2_with fail
      refine hup.mono ?_
      rintro e w3 ⟨rfl, c, hs2, hb, ha, hk⟩
      have hcz : c.size = n + 1 := by rw [hs2.size, HB.out.2.2]
      have hpo := HO'.out.pop ha (by omega)
      have he : c[c.size - 1]! = a[i2]! := by
        rw [hcz, Nat.add_sub_cancel, hs2.rest n (Nat.le_refl _), HB.out.1.rest n (Nat.le_refl _), swp_get a (by rw [HH.out.1]; omega) (by rw [HH.out.1]; omega), if_pos rfl]
      rw [he] at hpo
      have HC := Lib.hid (And.intro hs2 (And.intro hb (And.intro hk hcz)))
      clear hs2 hb hk hcz ha hup he
      go_wp2_with fail
      refine hpo.mono ?_
      rintro e w4 ⟨rfl, ha, hk⟩
      have HD := Lib.hid (And.intro ha hk)
      clear ha hk hpo
      go_wp2_with fail
      go_ret
      obtain ⟨hs, hk2, hbz⟩ := HB.out
      obtain ⟨hs2, hb, hk3, hcz⟩ := HC.out
      have hs3 := hs.trans hs2
      refine ⟨rfl, ⟨c.pop, HD.out.1, HeapFrom.pop (by rw [hcz, Nat.add_sub_cancel]; exact hb), ?_⟩, ((HK.out.trans hk2).trans hk3).trans HD.out.2⟩
      have hg := perm_gone (a := a) (b := c) i2 (by rw [HH.out.1]; omega) (by rw [hcz, HH.out.1]) (by rw [HH.out.1, Nat.add_sub_cancel]; exact hs3.perm) (by rw [HH.out.1, Nat.add_sub_cancel]; exact hs3.rest n (Nat.le_refl _))
      exact List.Perm.cons_inv (hg.symm.trans HH.out.2.2.1)
    · have hb : HeapFrom lt b n 0 := hu.done hc (.inl (by have : i < i2 := by simpa using hmv
                                                          omega))
      have hpo := HO'.out.pop ha (by omega)
      have he : b[b.size - 1]! = a[i]! := by
        rw [hbz, Nat.add_sub_cancel, hs.rest n (Nat.le_refl _), swp_get a (by rw [HH.out.1]; omega) (by rw [HH.out.1]; omega), if_pos rfl]
      rw [he] at hpo
      have HB := Lib.hid (And.intro hs (And.intro hb (And.intro hk hbz)))
      clear hs hb hk hbz hu hc ha hdo he hii hmv
      go_wp2_with fail
      refine hpo.mono ?_
      rintro e w3 ⟨rfl, ha, hk⟩
      have HC := Lib.hid (And.intro ha hk)
      clear ha hk hpo
      go_wp2_with fail
      go_ret
      obtain ⟨hs, hb, hk2, hbz⟩ := HB.out
      refine ⟨rfl, ⟨b.pop, HC.out.1, HeapFrom.pop (by rw [hbz, Nat.add_sub_cancel]; exact hb), ?_⟩, (HK.out.trans hk2).trans HC.out.2⟩
      have hg := perm_gone (a := a) (b := b) i (by rw [HH.out.1]; omega) (by rw [hbz, HH.out.1]) (by rw [HH.out.1, Nat.add_sub_cancel]; exact hs.perm) (by rw [HH.out.1, Nat.add_sub_cancel]; exact hs.rest n (Nat.le_refl _))
      exact List.Perm.cons_inv (hg.symm.trans HH.out.2.2.1)
  · obtain rfl : i = n := by omega
    have hpo := O.pop h (by omega)
    have he : a[a.size - 1]! = a[i]! := by rw [hn, Nat.add_sub_cancel]
    rw [he] at hpo
    have HH := Lib.hid (And.intro hn (And.intro hh hl))
    clear h hh O hn hl hi he hin
    go_enter Try.func33, Try.ntmps33
    go_wp2_with fail
    refine hln.mono ?_
    rintro e w' ⟨rfl, rfl⟩
    clear hln
    go_wp2_with fail
    refine hpo.mono ?_
    rintro e w1 ⟨rfl, ha, hk⟩
    have HC := Lib.hid (And.intro ha hk)
    clear ha hk hpo
    go_wp2_with fail
    go_ret
    obtain ⟨hn, hh, hl⟩ := HH.out
    refine ⟨rfl, ⟨a.pop, HC.out.1, HeapFrom.pop (fun k k0 kn kl => hh k k0 (by omega) kl), ?_⟩, HC.out.2⟩
    have hg := toList_pop a (by omega)
    rw [hn, Nat.add_sub_cancel] at hg
    rw [hg] at hl
    exact List.Perm.cons_inv ((List.perm_append_comm (l₁ := [a[i]!]) (l₂ := a.pop.toList)).trans hl)

def InitAt (lt : α → α → Bool) (At : World → List Nat → Array α → Prop) (w : World) (F : List Nat) (a : Array α) (n k : Nat) (wr : World) : Prop :=
  ∃ b, Sifted a b n ∧ HeapFrom lt b n k ∧ At wr F b ∧ Kept F w wr

end
end Go.Proofs.Ytjimjemogbphaaa
