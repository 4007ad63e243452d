/-
  container/heap, of whatever lies behind the interface: sifting up. container/heap, of whatever lies behind the interface: Init, Push, Pop, Remove.
-/
import Derived.Test.YtlignamakiiokaaGreatDoorMg2
import Derived.Test.YtlignamakiiokaaGreatDoorMg4
import Derived.Deep.LoopGhost
namespace Go.Proofs.YtlignamakiiokaaGreatDoor
open Go.RowKit Go.Sort

/-- What lies behind a heap's interface value: its five methods, and what each does to the row that it holds. -/
structure HO (T : TypeId) (rv : Value) (fl fe fs fp fo : Nat) {α : Type} [Inhabited α] (lt : α → α → Bool) (box : α → Value) (At : World → List Nat → Array α → Prop) : Prop where
  mLen : ∀ w, Sem.run Tryz.prog (method 453 T rv "Len") w = .ok (fl, rv) w
  mLess : ∀ w, Sem.run Tryz.prog (method 453 T rv "Less") w = .ok (fe, rv) w
  mSwap : ∀ w, Sem.run Tryz.prog (method 453 T rv "Swap") w = .ok (fs, rv) w
  mPush : ∀ w, Sem.run Tryz.prog (method 453 T rv "Push") w = .ok (fp, rv) w
  mPop : ∀ w, Sem.run Tryz.prog (method 453 T rv "Pop") w = .ok (fo, rv) w
  eLen : ∀ args w, (callFunc fl args).run Tryz.prog w = .ok (.enter fl args) w
  eLess : ∀ args w, (callFunc fe args).run Tryz.prog w = .ok (.enter fe args) w
  eSwap : ∀ args w, (callFunc fs args).run Tryz.prog w = .ok (.enter fs args) w
  ePush : ∀ args w, (callFunc fp args).run Tryz.prog w = .ok (.enter fp args) w
  ePop : ∀ args w, (callFunc fo args).run Tryz.prog w = .ok (.enter fo args) w
  swo : SWO lt
  few : ∀ {w F a}, At w F a → a.size ≤ 1000000
  len : ∀ {w F a}, At w F a → Calls Tryz.prog fl #[rv] w fun e w' => e = .returned (.int .i64 (a.size : Nat)) ∧ w' = w
  less : ∀ {w F a} (i j : Nat), At w F a → i < a.size → j < a.size → Calls Tryz.prog fe #[rv, .int .i64 i, .int .i64 j] w fun e w' => e = .returned (.bool (lt a[i]! a[j]!)) ∧ At w' F a ∧ Kept F w w'
  swap : ∀ {w F a} (i j : Nat), At w F a → i < a.size → j < a.size → Calls Tryz.prog fs #[rv, .int .i64 i, .int .i64 j] w fun e w' => e = .returned (.tuple #[]) ∧ At w' F (swp a i j) ∧ Kept F w w'
  push : ∀ {w F a} (x : α), At w F a → a.size < 1000000 → Calls Tryz.prog fp #[rv, box x] w fun e w' => e = .returned (.tuple #[]) ∧ ∃ F', At w' F' (a.push x) ∧ Goes F w F' w'
  pop : ∀ {w F a}, At w F a → 0 < a.size → Calls Tryz.prog fo #[rv] w fun e w' => e = .returned (box a[a.size - 1]!) ∧ At w' F a.pop ∧ Kept F w w'

section
variable {T : TypeId} {rv : Value} {fl fe fs fp fo : Nat} {α : Type} [Inhabited α] {lt : α → α → Bool} {box : α → Value} {At : World → List Nat → Array α → Prop}

/-- What sifting leaves of a row: its size, what stands in it, what stands behind n. -/
structure Sifted (a a' : Array α) (n : Nat) : Prop where
  size : a'.size = a.size
  perm : a'.toList.Perm a.toList
  rest : ∀ k, n ≤ k → a'[k]! = a[k]!

theorem Sifted.refl (a : Array α) (n : Nat) : Sifted a a n := ⟨rfl, List.Perm.refl _, fun _ _ => rfl⟩
theorem Sifted.swp {a a' : Array α} {n i j : Nat} (h : Sifted a a' n) (hi : i < n) (hj : j < n) (hn : n ≤ a.size) : Sifted a (swp a' i j) n :=
  ⟨(size_swp _ _ _).trans h.size, (perm_swp a' i j (by rw [h.size]; omega) (by rw [h.size]; omega)).trans h.perm, fun k hk => (swp_other a' i j k (by omega) (by omega)).trans (h.rest k hk)⟩
theorem Sifted.trans {a b c : Array α} {n : Nat} (h : Sifted a b n) (k : Sifted b c n) : Sifted a c n := ⟨k.size.trans h.size, k.perm.trans h.perm, fun i hi => (k.rest i hi).trans (h.rest i hi)⟩

/-- Where sifting up stands, and what it leaves. -/
def UpAt (lt : α → α → Bool) (At : World → List Nat → Array α → Prop) (w : World) (F : List Nat) (a : Array α) (n i : Nat) (wr : World) : Prop :=
  ∃ b, Sifted a b n ∧ UpInv lt b n i ∧ At wr F b ∧ Kept F w wr
def UpEnd (lt : α → α → Bool) (At : World → List Nat → Array α → Prop) (w : World) (F : List Nat) (a : Array α) (n : Nat) (w' : World) : Prop :=
  ∃ b, Sifted a b n ∧ HeapFrom lt b n 0 ∧ At w' F b ∧ Kept F w w'

set_option maxRecDepth 100000 in
set_option maxHeartbeats 1000000 in
theorem up_at (O : HO T rv fl fe fs fp fo lt box At) {w : World} {F : List Nat} {a : Array α} (n j : Nat) (h : At w F a) (hn : n ≤ a.size) (hj : j < n) (hU : UpInv lt a n j) :
    Calls Tryz.prog 201 #[.iface T rv, .int .i64 j] w fun e w' => e = .returned (.tuple #[]) ∧ UpEnd lt At w F a n w' := by
  have mLess := O.mLess; have mSwap := O.mSwap; have eLess := O.eLess; have eSwap := O.eSwap
  have hfew := O.few h
  have HO' := Lib.hid O
  have HB := Lib.hid hn
  have hn' : n ≤ 1000000 := by omega
  have HS := Lib.hid (show UpAt lt At w F a n j w from ⟨a, Sifted.refl _ _, hU, h, Kept.refl _ _⟩)
  clear h hU O hn hfew
  go_enter Tryz.func201, Tryz.ntmps201
  go_wp2_with fail
  go_loopg [1] n (fun g v1 wr => ∃ i : Nat, v1 = .int .i64 i ∧ i < n ∧ i ≤ g ∧ UpAt lt At w F a n i wr)
  case atStart => exact ⟨j, rfl, hj, by omega, HS.out⟩
  case round =>
    clear HS
    obtain ⟨i, rfl, hi, hg, HR0⟩ := hrel
    have HR := Lib.hid HR0
    clear HR0
    rcases Nat.eq_zero_or_pos i with h0 | h0
    · subst h0
      go_wp2_with fail
      go_end0
      obtain ⟨b, hs, hu, ha, hk⟩ := HR.out
      exact ⟨rfl, b, hs, hu.done (fun h => absurd h (by omega)), ha, hk⟩
    · have hle : i ≤ 1000000 := by omega
      have hi1 : (1 : Int) ≤ i := by omega
      obtain ⟨p, hp⟩ : ∃ p : Nat, ((i : Int) - 1) / 2 = p := ⟨(i - 1) / 2, by omega⟩
      have hne : ((p : Int) == i) = false := by simp; omega
      obtain ⟨b, hs, hu, ha, hk⟩ := HR.out
      have hsz : i < b.size := by rw [hs.size]; exact Nat.lt_of_lt_of_le hi HB.out
      have hl := HO'.out.less i p ha hsz (by omega)
      have HL := Lib.hid (And.intro hs (And.intro hu (And.intro hk hsz)))
      clear hs hu ha hk hsz HR
      cases hlt : lt b[i]! b[p]!
      · rw [hlt] at hl
        have HLT := Lib.hid hlt
        clear hlt
        go_wp2_with fail
        refine hl.mono ?_
        rintro e wk ⟨rfl, ha, hk⟩
        have HK := Lib.hid (And.intro ha hk)
        clear ha hk hl
        go_wp2_with fail
        go_end0
        obtain ⟨hs, hu, hk0, hsz⟩ := HL.out
        exact ⟨rfl, b, hs, hu.done (fun _ => by rw [show (i - 1) / 2 = p by omega]; exact HLT.out), HK.out.1, hk0.trans HK.out.2⟩
      · rw [hlt] at hl
        have HLT := Lib.hid hlt
        clear hlt
        go_wp2_with fail
        refine hl.mono ?_
        rintro e wk ⟨rfl, ha, hk⟩
        have hsw := HO'.out.swap p i ha (by have := HL.out.2.2.2; omega) HL.out.2.2.2
        have HK := Lib.hid hk
        clear ha hk hl
        go_wp2_with fail
        refine hsw.mono ?_
        rintro e wl ⟨rfl, ha, hk⟩
        have HA := Lib.hid (And.intro ha hk)
        clear ha hk hsw
        go_wp2
        go_roundg p
        case measure => omega
        case rel =>
          obtain ⟨hs, hu, hk0, hsz⟩ := HL.out
          have hnb : n ≤ b.size := by rw [hs.size]; exact HB.out
          have hst := hu.step HO'.out.swo hnb h0 hi (by rw [show (i - 1) / 2 = p by omega]; exact HLT.out)
          rw [show (i - 1) / 2 = p by omega] at hst
          exact ⟨p, by rw [← hp], by omega, by omega, _, hs.swp (by omega) hi HB.out, hst, HA.out.1, (hk0.trans HK.out).trans HA.out.2⟩

/-- Where sifting down stands, and what it leaves. -/
def DownAt (lt : α → α → Bool) (At : World → List Nat → Array α → Prop) (w : World) (F : List Nat) (a : Array α) (n lo i0 i : Nat) (wr : World) : Prop :=
  ∃ b, Sifted a b n ∧ DownInv lt b n lo i0 i ∧ At wr F b ∧ Kept F w wr
def DownEnd (lt : α → α → Bool) (At : World → List Nat → Array α → Prop) (w : World) (F : List Nat) (a : Array α) (n lo i0 : Nat) (e : Ending) (w' : World) : Prop :=
  ∃ b i, e = .returned (.bool (decide (i0 < i))) ∧ Sifted a b n ∧ DownInv lt b n lo i0 i ∧ (∀ k, 0 < k → k < n → (k - 1) / 2 = i → lt b[k]! b[i]! = false) ∧ At w' F b ∧ Kept F w w'

set_option maxRecDepth 100000 in
set_option maxHeartbeats 2000000 in
theorem down_at (O : HO T rv fl fe fs fp fo lt box At) {w : World} {F : List Nat} {a : Array α} (n lo i0 : Nat) (h : At w F a) (hn : n ≤ a.size) (hi0 : i0 ≤ n) (hlo : lo ≤ i0) (hD : DownInv lt a n lo i0 i0) :
    Calls Tryz.prog 199 #[.iface T rv, .int .i64 i0, .int .i64 n] w (DownEnd lt At w F a n lo i0) := by
  have mLess := O.mLess; have mSwap := O.mSwap; have eLess := O.eLess; have eSwap := O.eSwap
  have hfew := O.few h
  have HO' := Lib.hid O
  have HB := Lib.hid (And.intro hn hlo)
  have hn' : n ≤ 1000000 := by omega
  have HS := Lib.hid (show DownAt lt At w F a n lo i0 i0 w from ⟨a, Sifted.refl _ _, hD, h, Kept.refl _ _⟩)
  clear h hD O hn hfew hlo
  go_enter Tryz.func199, Tryz.ntmps199
  go_wp2_with fail
  go_loopg [7] (n - i0) (fun g v wr => ∃ i : Nat, v = .int .i64 i ∧ i0 ≤ i ∧ i ≤ n ∧ n - i ≤ g ∧ DownAt lt At w F a n lo i0 i wr)
  case atStart => exact ⟨i0, rfl, Nat.le_refl _, hi0, Nat.le_refl _, HS.out⟩
  case round =>
    clear HS
    obtain ⟨i, rfl, hi0i, hin, hg, HR0⟩ := hrel
    have hle : i ≤ 1000000 := by omega
    obtain ⟨j1, hj1⟩ : ∃ j : Nat, 2 * (i : Int) + 1 = j := ⟨2 * i + 1, by omega⟩
    have hj1' : j1 ≤ 2000001 := by omega
    have hb0 : decide ((j1 : Int) < 0) = false := by simp
    by_cases hend : n ≤ j1
    · have hb1 : decide (n ≤ j1) = true := by simpa using hend
      have HR := Lib.hid (And.intro HR0 (show 2 * i + 1 = j1 by omega))
      clear HR0
      go_wp2_with fail
      go_ret
      obtain ⟨⟨b, hs, hu, ha, hk⟩, he⟩ := HR.out
      exact ⟨b, i, rfl, hs, hu, fun k k0 kn kp => absurd kn (by omega), ha, hk⟩
    · have hb1 : decide (n ≤ j1) = false := by simpa using hend
      obtain ⟨j2, hj2⟩ : ∃ j : Nat, (j1 : Int) + 1 = j := ⟨j1 + 1, by omega⟩
      have hj2' : j2 ≤ 2000002 := by omega
      have hin' : i < n := by omega
      obtain ⟨b, hs, hu, ha, hk⟩ := HR0
      have hsz : n ≤ b.size := by rw [hs.size]; exact HB.out.1
      by_cases hc : j2 < n
      · have hb2 : decide (j2 < n) = true := by simpa using hc
        have hl := HO'.out.less j2 j1 ha (by omega) (by omega)
        have HL := Lib.hid (And.intro hs (And.intro hu (And.intro hk hsz)))
        clear hs hu ha hk hsz
        cases hlj : lt b[j2]! b[j1]!
        · rw [hlj] at hl
          have HM := Lib.hid (show ∀ k, 0 < k → k < n → (k - 1) / 2 = i → lt b[k]! b[j1]! = false from fun k k0 kn kp => by
            rcases (show k = j1 ∨ k = j2 by omega) with rfl | rfl
            · exact HO'.out.swo.irrefl _
            · exact hlj)
          clear hlj
          go_wp2_with fail
          refine hl.mono ?_
          rintro e wk ⟨rfl, ha, hk⟩
          have HA := Lib.hid (And.intro ha hk)
          clear ha hk hl
          have hl2 := HO'.out.less j1 i HA.out.1 (by have := HL.out.2.2.2; omega) (by have := HL.out.2.2.2; omega)
          cases hlt : lt b[j1]! b[i]!
          · rw [hlt] at hl2
            have HLT := Lib.hid hlt
            clear hlt
            go_wp2_with fail
            refine hl2.mono ?_
            rintro e wl ⟨rfl, ha, hk⟩
            have HK := Lib.hid (And.intro ha hk)
            clear ha hk hl2
            go_wp2_with fail
            go_ret
            obtain ⟨hs, hu, hk0, hsz⟩ := HL.out
            exact ⟨b, i, rfl, hs, hu, fun k k0 kn kp => not_lt_of_low HO'.out.swo (HM.out k k0 kn kp) HLT.out, HK.out.1, (hk0.trans HA.out.2).trans HK.out.2⟩
          · rw [hlt] at hl2
            have HLT := Lib.hid hlt
            clear hlt
            go_wp2_with fail
            refine hl2.mono ?_
            rintro e wl ⟨rfl, ha, hk⟩
            have hsw := HO'.out.swap i j1 ha (by have := HL.out.2.2.2; omega) (by have := HL.out.2.2.2; omega)
            have HK := Lib.hid hk
            clear ha hk hl2
            go_wp2_with fail
            refine hsw.mono ?_
            rintro e wm ⟨rfl, ha, hk⟩
            have HB2 := Lib.hid (And.intro ha hk)
            clear ha hk hsw
            go_wp2
            go_roundg (n - j1)
            case measure => omega
            case rel =>
              obtain ⟨hs, hu, hk0, hsz⟩ := HL.out
              exact ⟨j1, rfl, by omega, by omega, Nat.le_refl _, _, hs.swp (by omega) (by omega) HB.out.1, hu.step HO'.out.swo HB.out.2 hsz (by omega) (by omega) (by omega) HLT.out HM.out, HB2.out.1, ((hk0.trans HA.out.2).trans HK.out).trans HB2.out.2⟩
        · rw [hlj] at hl
          have HM := Lib.hid (show ∀ k, 0 < k → k < n → (k - 1) / 2 = i → lt b[k]! b[j2]! = false from fun k k0 kn kp => by
            rcases (show k = j1 ∨ k = j2 by omega) with rfl | rfl
            · exact lt_asym HO'.out.swo hlj
            · exact HO'.out.swo.irrefl _)
          clear hlj
          go_wp2_with fail
          refine hl.mono ?_
          rintro e wk ⟨rfl, ha, hk⟩
          have HA := Lib.hid (And.intro ha hk)
          clear ha hk hl
          have hl2 := HO'.out.less j2 i HA.out.1 (by have := HL.out.2.2.2; omega) (by have := HL.out.2.2.2; omega)
          cases hlt : lt b[j2]! b[i]!
          · rw [hlt] at hl2
            have HLT := Lib.hid hlt
            clear hlt
            go_wp2_with fail
            refine hl2.mono ?_
            rintro e wl ⟨rfl, ha, hk⟩
            have HK := Lib.hid (And.intro ha hk)
            clear ha hk hl2
            go_wp2_with fail
            go_ret
            obtain ⟨hs, hu, hk0, hsz⟩ := HL.out
            exact ⟨b, i, rfl, hs, hu, fun k k0 kn kp => not_lt_of_low HO'.out.swo (HM.out k k0 kn kp) HLT.out, HK.out.1, (hk0.trans HA.out.2).trans HK.out.2⟩
          · rw [hlt] at hl2
            have HLT := Lib.hid hlt
            clear hlt
            go_wp2_with fail
            refine hl2.mono ?_
            rintro e wl ⟨rfl, ha, hk⟩
            have hsw := HO'.out.swap i j2 ha (by have := HL.out.2.2.2; omega) (by have := HL.out.2.2.2; omega)
            have HK := Lib.hid hk
            clear ha hk hl2
            go_wp2_with fail
            refine hsw.mono ?_
            rintro e wm ⟨rfl, ha, hk⟩
            have HB2 := Lib.hid (And.intro ha hk)
            clear ha hk hsw
            go_wp2
            go_roundg (n - j2)
            case measure => omega
            case rel =>
              obtain ⟨hs, hu, hk0, hsz⟩ := HL.out
              exact ⟨j2, rfl, by omega, by omega, Nat.le_refl _, _, hs.swp (by omega) (by omega) HB.out.1, hu.step HO'.out.swo HB.out.2 hsz (by omega) (by omega) (by omega) HLT.out HM.out, HB2.out.1, ((hk0.trans HA.out.2).trans HK.out).trans HB2.out.2⟩
      · have hb2 : decide (j2 < n) = false := by simpa using hc
        have HL := Lib.hid (And.intro hs (And.intro hu (And.intro hk hsz)))
        have HA := Lib.hid (And.intro ha (Kept.refl F wr))
        clear hs hu ha hk hsz
        have HM := Lib.hid (show ∀ k, 0 < k → k < n → (k - 1) / 2 = i → lt b[k]! b[j1]! = false from fun k k0 kn kp => by
          obtain rfl : k = j1 := by omega
          exact HO'.out.swo.irrefl _)
        have hl2 := HO'.out.less j1 i HA.out.1 (by have := HL.out.2.2.2; omega) (by have := HL.out.2.2.2; omega)
        cases hlt : lt b[j1]! b[i]!
        · rw [hlt] at hl2
          have HLT := Lib.hid hlt
          clear hlt
          go_wp2_with fail
          refine hl2.mono ?_
          rintro e wl ⟨rfl, ha, hk⟩
          have HK := Lib.hid (And.intro ha hk)
          clear ha hk hl2
          go_wp2_with fail
          go_ret
          obtain ⟨hs, hu, hk0, hsz⟩ := HL.out
          exact ⟨b, i, rfl, hs, hu, fun k k0 kn kp => not_lt_of_low HO'.out.swo (HM.out k k0 kn kp) HLT.out, HK.out.1, (hk0.trans HA.out.2).trans HK.out.2⟩
        · rw [hlt] at hl2
          have HLT := Lib.hid hlt
          clear hlt
          go_wp2_with fail
          refine hl2.mono ?_
          rintro e wl ⟨rfl, ha, hk⟩
          have hsw := HO'.out.swap i j1 ha (by have := HL.out.2.2.2; omega) (by have := HL.out.2.2.2; omega)
          have HK := Lib.hid hk
          clear ha hk hl2
          go_wp2_with fail
          refine hsw.mono ?_
          rintro e wm ⟨rfl, ha, hk⟩
          have HB2 := Lib.hid (And.intro ha hk)
          clear ha hk hsw
          go_wp2
          go_roundg (n - j1)
          case measure => omega
          case rel =>
            obtain ⟨hs, hu, hk0, hsz⟩ := HL.out
            exact ⟨j1, rfl, by omega, by omega, Nat.le_refl _, _, hs.swp (by omega) (by omega) HB.out.1, hu.step HO'.out.swo HB.out.2 hsz (by omega) (by omega) (by omega) HLT.out HM.out, HB2.out.1, ((hk0.trans HA.out.2).trans HK.out).trans HB2.out.2⟩
end
end Go.Proofs.YtlignamakiiokaaGreatDoor

namespace Go.Proofs.YtlignamakiiokaaGreatDoor
open Go.RowKit Go.Sort

section
variable {T : TypeId} {rv : Value} {fl fe fs fp fo : Nat} {α : Type} [Inhabited α] {lt : α → α → Bool} {box : α → Value} {At : World → List Nat → Array α → Prop}

/-- What a call leaves: a heap of what stands in l. -/
def HeapOf (lt : α → α → Bool) (At : World → List Nat → Array α → Prop) (F : List Nat) (l : List α) (w' : World) : Prop := ∃ b, At w' F b ∧ HeapFrom lt b b.size 0 ∧ b.toList.Perm l
def PushEnd (lt : α → α → Bool) (At : World → List Nat → Array α → Prop) (w : World) (F : List Nat) (l : List α) (w' : World) : Prop := ∃ F', HeapOf lt At F' l w' ∧ Goes F w F' w'
def KeptEnd (lt : α → α → Bool) (At : World → List Nat → Array α → Prop) (w : World) (F : List Nat) (l : List α) (w' : World) : Prop := HeapOf lt At F l w' ∧ Kept F w w'

set_option maxRecDepth 100000 in
set_option maxHeartbeats 1000000 in
theorem hpush_at (O : HO T rv fl fe fs fp fo lt box At) {w : World} {F : List Nat} {a : Array α} (x : α) (h : At w F a) (hh : HeapFrom lt a a.size 0) (hs : a.size < 1000000) :
    Calls Tryz.prog 169 #[.iface T rv, box x] w fun e w' => e = .returned (.tuple #[]) ∧ PushEnd lt At w F (x :: a.toList) w' := by
  have mLen := O.mLen; have mPush := O.mPush; have eLen := O.eLen; have ePush := O.ePush
  have hp := O.push x h hs
  have HO' := Lib.hid O
  have HH := Lib.hid hh
  clear h hh O
  generalize hbx : box x = bx at *
  clear hbx
  go_enter Tryz.func169, Tryz.ntmps169
  go_wp2_with fail
  refine hp.mono ?_
  rintro e w1 ⟨rfl, F', ha1, hg1⟩
  have hl1 := HO'.out.len ha1
  obtain ⟨n, hn⟩ : ∃ n, n = a.size := ⟨_, rfl⟩
  rw [show (a.push x).size = n + 1 by simp [hn]] at hl1
  have HA := Lib.hid (And.intro ha1 (And.intro hg1 hn))
  have hnb : n < 1000000 := by omega
  clear ha1 hg1 hn hp hs
  go_wp2_with fail
  refine hl1.mono ?_
  rintro e w' ⟨rfl, rfl⟩
  clear hl1
  have hup := up_at HO'.out (n + 1) n HA.out.1 (by simp [HA.out.2.2]) (by omega) (by rw [HA.out.2.2]; have h := HeapFrom.push HH.out x; rwa [Array.size_push] at h)
  go_wp2_with fail
  refine hup.mono ?_
  rintro e w2 ⟨rfl, b, hs, hb, hab, hk⟩
  have HE := Lib.hid (And.intro hs (And.intro hb (And.intro hab hk)))
  clear hs hb hab hk hup
  go_wp2_with fail
  go_end0
  obtain ⟨hs, hb, hab, hk⟩ := HE.out
  have hz : b.size = n + 1 := by rw [hs.size, Array.size_push, HA.out.2.2]
  refine ⟨rfl, F', ⟨b, hab, by rw [hz]; exact hb, hs.perm.trans ?_⟩, HA.out.2.1.trans ⟨hk, fun k hk => .inl hk⟩⟩
  rw [Array.toList_push]
  exact List.perm_append_singleton _ _


set_option maxRecDepth 100000 in
set_option maxHeartbeats 1000000 in
theorem hpop_at (O : HO T rv fl fe fs fp fo lt box At) {w : World} {F : List Nat} {a : Array α} (l : List α) (h : At w F a) (hh : HeapFrom lt a a.size 0) (hs : 0 < a.size) (hl : a.toList.Perm (a[0]! :: l)) :
    Calls Tryz.prog 166 #[.iface T rv] w fun e w' => e = .returned (box a[0]!) ∧ KeptEnd lt At w F l w' := by
  have mLen := O.mLen; have mSwap := O.mSwap; have mPop := O.mPop; have eLen := O.eLen; have eSwap := O.eSwap; have ePop := O.ePop
  obtain ⟨n, hn⟩ : ∃ n, a.size = n + 1 := ⟨a.size - 1, by omega⟩
  have hln := O.len h
  rw [hn] at hln
  have hnb : n < 1000000 := by have := O.few h; omega
  have hsw := O.swap 0 n h (by omega) (by omega)
  have hdi : DownInv lt (swp a 0 n) n 0 0 0 := by
    rcases Nat.eq_zero_or_pos n with h0 | h0
    · subst h0
      exact ⟨Nat.le_refl _, fun k k0 kn => by omega, fun h0 => by omega⟩
    · have := hh.replaced O.swo 0 (by omega)
      rwa [hn] at this
  have HO' := Lib.hid O
  have HH := Lib.hid (And.intro hn (And.intro hdi hl))
  clear h hh O hn hdi hl hs
  go_enter Tryz.func166, Tryz.ntmps166
  go_wp2_with fail
  refine hln.mono ?_
  rintro e w' ⟨rfl, rfl⟩
  clear hln
  go_wp2_with fail
  refine hsw.mono ?_
  rintro e w1 ⟨rfl, ha, hk⟩
  have hdo := down_at HO'.out n 0 0 ha (by rw [size_swp, HH.out.1]; omega) (by omega) (Nat.le_refl _) HH.out.2.1
  have HK := Lib.hid hk
  clear ha hk hsw
  go_wp2_with fail
  refine hdo.mono ?_
  rintro e w2 ⟨b, i, rfl, hs, hu, hc, ha, hk⟩
  have hbz : b.size = n + 1 := by rw [hs.size, size_swp, HH.out.1]
  have hpo := HO'.out.pop ha (by omega)
  have hb : HeapFrom lt b n 0 := hu.done hc (.inr (.inl rfl))
  have he : b[b.size - 1]! = a[0]! := by
    rw [hbz, Nat.add_sub_cancel, hs.rest n (Nat.le_refl _), swp_get a (by rw [HH.out.1]; omega) (by rw [HH.out.1]; omega), if_pos rfl]
  rw [he] at hpo
  have HB := Lib.hid (And.intro hs (And.intro hb (And.intro hk hbz)))
  clear hs hb hk hbz hu hc ha hdo he
  go_wp2_with fail
  refine hpo.mono ?_
  rintro e w3 ⟨rfl, ha, hk⟩
  have HC := Lib.hid (And.intro ha hk)
  clear ha hk hpo
  go_wp2_with fail
  go_ret
  obtain ⟨hs, hb, hk2, hbz⟩ := HB.out
  refine ⟨rfl, ⟨b.pop, HC.out.1, HeapFrom.pop (by rw [hbz, Nat.add_sub_cancel]; exact hb), ?_⟩, (HK.out.trans hk2).trans HC.out.2⟩
  have hg := perm_gone (a := a) (b := b) 0 (by rw [HH.out.1]; omega) (by rw [hbz, HH.out.1]) (by rw [HH.out.1, Nat.add_sub_cancel]; exact hs.perm) (by rw [HH.out.1, Nat.add_sub_cancel]; exact hs.rest n (Nat.le_refl _))
  exact List.Perm.cons_inv (hg.symm.trans HH.out.2.2)



end
end Go.Proofs.YtlignamakiiokaaGreatDoor
