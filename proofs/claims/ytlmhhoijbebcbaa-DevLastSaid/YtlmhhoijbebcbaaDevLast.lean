/-
  DevLast: of several writes of one page the last one whose sector stays is there: for every int and []int. Conditions: none but those of the given statement.
-/
import Derived.Test.YtlmhhoijbebcbaaG1
import Derived.Test.YtlmhhoijbebcbaaFrameS
namespace Go.Proofs.Ytlmhhoijbebcbaa.devLast
open Go.ChangeShapes Go.WideShapes Go.ChangeAt Go.RowKit Go.Lib

/-- The device behind k writes. -/
def lastS : Nat → DevS
  | 0 => longer (newS 2) 1
  | k + 1 => wroteS (lastS k) 0 (filledB (k + 1) 300)
/-- Its writes that wait. -/
def lineS (k : Nat) : List (Int × ByteArray) := (List.range k).map fun i => (0, filledB (i + 1) 300)
theorem lineS_snoc (k : Nat) : lineS (k + 1) = lineS k ++ [(0, filledB (k + 1) 300)] := by simp [lineS, List.range_succ]
theorem lineS_length (k : Nat) : (lineS k).length = k := by simp [lineS]
theorem lineS_size (k : Nat) : ∀ x ∈ lineS k, x.2.size = 256 := by
  intro x hx
  obtain ⟨i, _, rfl⟩ := List.mem_map.1 hx
  exact filledB_size _ _

theorem roomed_le {l : List (Int × ByteArray)} {cap : Nat} (h : cap ≤ 16 + 2 * l.length) : roomed l cap ≤ 16 + 2 * (l.length + 1) := by
  unfold roomed
  split
  · omega
  · omega

theorem last_facts : ∀ k, Idle (lastS k) ∧ (lastS k).pages.length = 1 ∧ (lastS k).synced = [blank] ∧ (lastS k).line = lineS k ∧ (lastS k).cap ≤ 16 + 2 * k ∧ (lastS k).most = 2
  | 0 => ⟨longer_idle (newS_idle 2) 1, rfl, rfl, rfl, by show (0 : Nat) ≤ _; omega, rfl⟩
  | k + 1 => by
    obtain ⟨a, b, c, d, e, f⟩ := last_facts k
    refine ⟨⟨a.on, a.fuse⟩, by simp [lastS, wroteS, b], c, ?_, ?_, f⟩
    · show (lastS k).line ++ _ = _
      rw [d, lineS_snoc]
    · show roomed (lastS k).line (lastS k).cap ≤ _
      have := roomed_le (l := (lastS k).line) (cap := (lastS k).cap) (by rw [d, lineS_length]; exact e)
      rw [d, lineS_length] at this
      rw [d]
      exact this

/-- The byte that ought to be there behind the first j writes. -/
def want (l : List Int) (k : Nat) : Nat → Nat
  | 0 => 0
  | j + 1 => if kept (keepOf l j) k = true then j + 1 else want l k j
theorem want_le (l : List Int) (k : Nat) : ∀ j, want l k j ≤ j
  | 0 => Nat.le_refl _
  | j + 1 => by
    have := want_le l k j
    unfold want
    split <;> omega

/-- What the page is at last. -/
def X (l : List Int) (n : Nat) : ByteArray := after (keepOf l) 0 0 (lineS n) blank
theorem X_size (l : List Int) (n : Nat) : (X l n).size = 256 := after_size _ _ _ _ _ blank_size (lineS_size n)
theorem X_byte (l : List Int) (k : Nat) (hk : k < 8) : ∀ n, n ≤ 20 → (X l n).data.toList[32 * k + 1]? = some (want l k n).toUInt8
  | 0, _ => by
    show blank.data.toList[32 * k + 1]? = _
    rw [blank_byte _ (by omega)]
    rfl
  | n + 1, hn => by
    have e : X l (n + 1) = mixB (X l n) (filledB (n + 1) 300) (keepOf l n) := by
      unfold X
      rw [lineS_snoc, after_snoc, if_pos (show Int.toNat 0 = 0 from rfl), lineS_length, Nat.zero_add]
    rw [byte_sector _ k 1 (by omega), e, mixB_sector (X_size l n) (filledB_size _ _) hk, ← byte_sector _ k 1 (by omega)]
    unfold want
    by_cases h : kept (keepOf l n) k = true
    · rw [if_pos h, if_pos h, filledB_byte _ _ _ (by omega) (by omega)]
    · rw [if_neg h, if_neg h]
      exact X_byte l k hk n (by omega)
theorem X_at (l : List Int) (n k : Nat) (hn : n ≤ 20) (hk : k < 8) (hs : 32 * k + 1 < (X l n).size) : ((X l n)[32 * k + 1]'hs).toNat = want l k n := by
  have h := X_byte l k hk n hn
  rw [List.getElem?_eq_getElem (by exact hs)] at h
  have h2 := want_le l k n
  have h3 : (X l n)[32 * k + 1]'hs = (want l k n).toUInt8 := Option.some.inj h
  rw [h3, u8_nat (by omega)]

/-- Behind the crash, and with power again. -/
def endS (l : List Int) (n : Nat) : DevS := { crashS (lastS n) l with on := true }
theorem end_read (l : List Int) (n : Nat) (hn : 1 ≤ n) : readB (endS l n) 0 = X l n ∧ readE (endS l n) 0 = 0 := by
  obtain ⟨a, b, c, d, e, f⟩ := last_facts n
  have hp : (endS l n).pages[0]? = some (X l n) := by
    show (crashS (lastS n) l).pages[0]? = _
    unfold crashS
    rw [settled_pages _ 0 _ _ _ (by show (lastS n).synced.length = (lastS n).pages.length; rw [c, b]; rfl) (.inr ?_), settled_synced]
    · show ((lastS n).synced[0]?).map _ = _
      rw [c, d]
      rfl
    · rw [d]
      exact ⟨(0, filledB 1 300), List.mem_map.2 ⟨0, List.mem_range.2 (by omega), rfl⟩, rfl⟩
  have hl : 0 < (endS l n).pages.length := by
    rcases h : (endS l n).pages with _ | ⟨x, r⟩
    · rw [h] at hp; simp at hp
    · simp
  unfold readB readE
  rw [if_pos ⟨rfl, Int.le_refl 0⟩, if_pos (show (endS l n).on = true from rfl), if_pos ⟨by omega, by omega⟩]
  refine ⟨?_, rfl⟩
  show ((endS l n).pages[0]?).getD _ = _
  rw [hp]
  rfl

/-- Where the writes stand. -/
def At (w1 : World) (p k : Nat) (wr : World) : Prop := ∃ F, DevAt wr p (lastS k) F ∧ Goes [p] w1 F wr

set_option maxRecDepth 1000000 in
set_option maxHeartbeats 800000 in
theorem walk_out (w : World) (n : Int) (A : Option Addr) (m c : Nat) (h : n < 1 ∨ 20 < n ∨ (m : Int) < n ∨ 40 < m) : Calls Try.prog 8 #[.int .i64 n, .slice A m c] w fun e w' => e = .returned (.bool true) ∧ Below w.heap.size w w' := by
  by_cases h1 : n < 1
  · clear h
    go_enter Try.func8, Try.ntmps8
    go_wp2_with (go_at_call 13; refine (alive_walk _).mono ?_; rintro e w2 ⟨rfl, hb2⟩)
    go_ret
    exact ⟨rfl, hb2⟩
  · by_cases h2 : 20 < n
    · clear h
      go_enter Try.func8, Try.ntmps8
      go_wp2_with (go_at_call 13; refine (alive_walk _).mono ?_; rintro e w2 ⟨rfl, hb2⟩)
      go_ret
      exact ⟨rfl, hb2⟩
    · by_cases h3 : (m : Int) < n
      · clear h
        go_enter Try.func8, Try.ntmps8
        go_wp2_with (go_at_call 13; refine (alive_walk _).mono ?_; rintro e w2 ⟨rfl, hb2⟩)
        go_ret
        exact ⟨rfl, hb2⟩
      · have h4 : (40 : Int) < m := by omega
        clear h
        go_enter Try.func8, Try.ntmps8
        go_wp2_with (go_at_call 13; refine (alive_walk _).mono ?_; rintro e w2 ⟨rfl, hb2⟩)
        go_ret
        exact ⟨rfl, hb2⟩

set_option maxRecDepth 1000000 in
set_option maxHeartbeats 1600000 in
theorem walk_whole (w : World) (n : Nat) (v : Value) (l : List Int) (hr : Reads1 w w.heap.size v (l.map (Value.int .i64))) (hint : ∀ x ∈ l, IsInt x) (h1 : 1 ≤ n) (h2 : n ≤ 20) (h3 : n ≤ l.length) (h4 : l.length ≤ 40) :
    Calls Try.prog 8 #[.int .i64 n, v] w fun e w' => e = .returned (.bool true) ∧ Below w.heap.size w w' := by
  have hform : ∃ A c, v = .slice A l.length c := by obtain ⟨A, c, rfl, _⟩ := hr; exact ⟨A, c, by simp⟩
  obtain ⟨A, c, rfl⟩ := hform
  have HR := Lib.hid hr
  have HI := Lib.hid hint
  have b1 : ((n : Int) < 1) = False := by simp; omega
  have b2 : ((20 : Int) < n) = False := by simp; omega
  have b3 : ((l.length : Int) < n) = False := by simp; omega
  have b4 : ((40 : Int) < l.length) = False := by simp; omega
  clear hr hint
  go_enter Try.func8, Try.ntmps8
  go_wp2_with fail
  refine (new_ok 2 w (by omega) (by omega)).mono ?_
  rintro e w1 ⟨rfl, hd, hb1⟩
  have hgr := grow_any w.heap.size (newS 2) _ 1 w1 hd
  rw [((newS_idle 2).grow 1).1, ((newS_idle 2).grow 1).2, show growE (newS 2) 1 = 0 from by decide, show growS (newS 2) 1 = longer (newS 2) 1 from rfl] at hgr
  have H1 := Lib.hid hb1
  clear hd hb1
  go_wp2_with fail
  refine hgr.mono ?_
  rintro e w2 ⟨rfl, F2, hd, hg2⟩
  have hst : At w1 w.heap.size 0 w2 := ⟨F2, hd, hg2⟩
  have HST := Lib.hid hst
  clear hd hg2 hgr hst
  go_wp2_with fail
  go_loopw [7] (fun i wr => ∃ k : Nat, k ≤ n ∧ i = .int .i64 k ∧ At w1 w.heap.size k wr) (fun i _ => n - (RowKit.intOf i).toNat)
  case atStart => exact ⟨0, Nat.zero_le _, rfl, HST.out⟩
  case round =>
    clear HST
    obtain ⟨k, hk, rfl, F, hd, hg⟩ := hrel
    by_cases hlt : k < n
    · have hlt' : (k : Int) < (n : Int) := by omega
      have hkm : ((k : Int) + 1) % 256 = ((k + 1 : Nat) : Int) := by omega
      have HD := Lib.hid (And.intro hd hg)
      clear hd hg
      go_wp2_with fail
      refine (filled_any (k + 1) 300 _ (by omega)).mono ?_
      rintro e w4 ⟨rfl, hb4⟩
      obtain ⟨hd4, hg4⟩ := HD.out.1.goes hb4
      obtain ⟨a, b, c, d, e, f⟩ := last_facts k
      have hwr := write_any w.heap.size (lastS k) F 0 (filledB (k + 1) 300) w4 hd4 (by omega)
      rw [(a.write (n := 0) (by omega) (by omega) (filledB_size _ _)).1, (a.write (n := 0) (by omega) (by omega) (filledB_size _ _)).2.1] at hwr
      have HG := Lib.hid (HD.out.2.trans hg4)
      clear hd4 hg4 hb4 a b c d e f
      go_wp2_with fail
      refine hwr.mono ?_
      rintro e w5 ⟨rfl, F5, hd5, hg5⟩
      have H5 := Lib.hid (show At w1 w.heap.size (k + 1) w5 from ⟨F5, hd5, HG.out.trans hg5⟩)
      clear hd5 hg5 hwr
      go_wp2
      go_roundw
      case rel => exact ⟨k + 1, by omega, by go_num, H5.out⟩
      case measure => simp [RowKit.intOf]; omega
    · obtain rfl : k = n := by omega
      obtain ⟨a, b, c', d, e', f⟩ := last_facts k
      have hF : ∀ i ∈ F, w.heap.size ≤ i := by
        intro i hi
        rcases hg.2 i hi with h | h
        · simp at h; omega
        · exact Nat.le_trans H1.out.size h
      have hbw : Below w.heap.size w wr := H1.out.trans (hg.1.below H1.out.size (by simp))
      have hcr := crash_any w.heap.size (lastS k) F (.slice A l.length c) l wr hd ((HR.out.below hbw).off hbw.size hF) HI.out (by rw [d, lineS_length]; omega)
      have HC := Lib.hid (And.intro hcr hg)
      have hge : ((k : Int) < (k : Int)) = False := by simp
      clear hd hg hF hbw hcr a b c' d e' f
      go_wp2_with fail
      refine HC.out.1.mono ?_
      rintro e w3 ⟨rfl, hd3, hk3⟩
      have hm3 : (crashS (lastS k) l).most = 2 := ((settled_flags (keepOf l) _ 0 { lastS k with on := false, fuse := -1 }).2.2.1).trans (last_facts k).2.2.2.2.2
      have hre := restore_any w.heap.size (crashS (lastS k) l) F w3 hd3 (by rw [hm3]; decide)
      have hmm := hd3.mem
      have H3 := Lib.hid (HC.out.2.trans (goes_of_kept hk3 (fun k hk => hk)))
      clear hd3 hk3 HC hm3
      go_wp2_with fail
      refine hre.mono ?_
      rintro e w4 ⟨rfl, hd4, hk4⟩
      have hrd := read_any w.heap.size (endS l k) F 0 w4 hd4
      rw [(end_read l k h1).1, (end_read l k h1).2] at hrd
      have H4 := Lib.hid (H3.out.trans (goes_of_kept hk4 (by simpa using hmm)))
      clear hd4 hk4 hre hmm H3
      go_wp2_with fail
      refine hrd.mono ?_
      rintro e w5 ⟨rfl, hb5⟩
      have hfin : Below w.heap.size w w5 := by
        have hk : Kept [w.heap.size] w1 w5 := H4.out.1.then_ (G := []) (Kept.of_below hb5) (by simp)
        exact H1.out.trans (hk.below H1.out.size (by simp))
      have HR5 := Lib.hid (HR.out.below hfin)
      have HFIN := Lib.hid hfin
      clear hb5 hfin hrd H4
      have e0 : (((X l k).size : Int) == 256) = true := by rw [X_size]; rfl
      have hx : (X l k).size = 256 := X_size l k
      have hat := fun j (hj : j < 8) hs => X_at l k j h2 hj hs
      have HAT := Lib.hid hat
      clear hat
      go_wp2
      go_loop [10] (fun i => ∃ j : Nat, j ≤ 8 ∧ i = .int .i64 j) (fun i => 8 - (RowKit.intOf i).toNat)
      case atStart => exact ⟨0, Nat.zero_le _, rfl⟩
      case round =>
        obtain ⟨j, hj, rfl⟩ := hrel
        by_cases hj8 : j < 8
        · have hjlt : (j : Int) < 8 := by omega
          go_wp2
          go_loop [11, 12] (fun x i => ∃ q : Nat, q ≤ k ∧ i = .int .i64 q ∧ x = .int .u8 (want l j q)) (fun _ i => k - (RowKit.intOf i).toNat)
          case atStart => exact ⟨0, Nat.zero_le _, rfl, rfl⟩
          case round =>
            obtain ⟨q, hq, rfl, rfl⟩ := hrel
            by_cases hqk : q < k
            · have hql : q < l.length := by omega
              obtain ⟨A', c', hv, hcell⟩ := HR5.out
              simp only [List.length_map, Value.slice.injEq, true_and] at hv hcell
              obtain ⟨rfl, rfl⟩ := hv
              obtain ⟨b, off, rfl, hbb, hcc⟩ := hcell (by omega)
              have hck : w5.cell? ⟨b, off + q, none⟩ = some (.int .i64 l[q]) := hcc q _ (by simp [hql])
              have hki : keepOf l q = l[q] := by unfold keepOf; rw [List.getD, List.getElem?_eq_getElem hql]; rfl
              have hin := HI.out l[q] (List.getElem_mem hql)
              have HW : Hid (want l j (q + 1) = if kept l[q] j = true then q + 1 else want l j q) := by show _ = _; rw [← hki]; rfl
              have hwl := want_le l j q
              generalize want l j q = W0 at *
              generalize l[q] = x at *
              have hlo : -9223372036854775808 ≤ x := hin.1
              have hhi : x ≤ 9223372036854775807 := hin.2
              have hqk' : (q : Int) < (k : Int) := by omega
              have hql' : (q : Int) < (l.length : Int) := by omega
              clear hcc hcell hki hin
              by_cases hkp : kept x j = true
              · have hb : bits BinOp.and IntKind.i64 (x / 2 ^ j) 1 = 1 := by rw [i64_and1]; simpa [kept] using hkp
                rw [if_pos hkp] at HW
                go_wp2
                go_round
                case rel => exact ⟨q + 1, by omega, by go_num, by rw [HW.out]; go_num⟩
                case measure => simp [RowKit.intOf]; omega
              · have hb : bits BinOp.and IntKind.i64 (x / 2 ^ j) 1 = 0 := by
                  rw [i64_and1]
                  have : ¬ x / 2 ^ j % 2 = 1 := by simpa [kept] using hkp
                  omega
                rw [if_neg hkp] at HW
                go_wp2
                go_round
                case rel => exact ⟨q + 1, by omega, by go_num, by rw [HW.out]⟩
                case measure => simp [RowKit.intOf]; omega
            · obtain rfl : q = k := by omega
              have hby := HAT.out j hj8 (by omega)
              have hjs : 32 * j + 1 < (X l q).size := by omega
              go_wp2
              go_round
              case rel => exact ⟨j + 1, by omega, by go_num⟩
              case measure => simp [RowKit.intOf]; omega
        · obtain rfl : j = 8 := by omega
          go_wp2_with fail
          refine (alive_walk _).mono ?_
          rintro e w6 ⟨rfl, hb6⟩
          have hfin : Below w.heap.size w w6 := HFIN.out.trans (hb6.mono HFIN.out.size)
          clear hb6
          go_wp2
          go_ret
          exact ⟨rfl, hfin⟩

theorem walk (w : World) (n : Int) (_hn : IsInt n) (v : Value) (l : List Int) (hr : Reads1 w w.heap.size v (l.map (Value.int .i64))) (hint : ∀ x ∈ l, IsInt x) (_hl : l.length ≤ 9223372036854775807) :
    Calls Try.prog 8 #[.int .i64 n, v] w fun e w' => e = .returned (.bool true) ∧ Below w.heap.size w w' := by
  by_cases h : n < 1 ∨ 20 < n ∨ (l.length : Int) < n ∨ 40 < l.length
  · obtain ⟨A, c, rfl, _⟩ := hr
    rw [List.length_map]
    exact walk_out w n A l.length c h
  · obtain ⟨k, rfl⟩ : ∃ k : Nat, n = k := ⟨n.toNat, by omega⟩
    exact walk_whole w k v l hr hint (by omega) (by omega) (by omega) (by omega)

set_option maxRecDepth 100000 in
theorem lifted (os : Os) (started : os.Started) (H : Type) (enc : TypeId × Value → H) :
    ReturnsInHanded {} Try.checked os 8 .any (Rows.devLastSpec.pre6 enc Try.prog Try.f8 Rows.devLastRow.domain false) (Rows.devLastSpec.post enc Try.prog Try.f8 false true false false) := by
  refine returnsInHanded_of_change (C := Try.checked) own started (by kernel_rfl) Try.func8
    (ChangeSpec.witness6 (enc := enc) (C := Try.checked) false ⟨#[], #[.int .i64 0, .slice none 0 0], []⟩ 8 (by kernel_rfl) (by kernel_rfl) (by kernel_rfl) (by kernel_rfl)) ?_
  intro W base args ds gs before hval0 hW hcnd _
  have hval : ∀ (j : Nat) t v, Try.f8.params[j]? = some t → args[j]? = some v → Value.okWide Try.prog W .any base t v := hval0
  have hW' := hW
  obtain ⟨p, q, hA0, hV, rfl, hfz, hnd⟩ := hW
  have hA : DataW.TrodAll enc Try.prog W 0 (fun _ => true) true Try.f8.params.toList args.toList ds p := hA0
  rw [Try.params8] at hA hval
  obtain ⟨v0, vs0, d0, ds0, p0, q0, hargs, rfl, rfl, h0, r00⟩ := trodAll_cons hA
  obtain ⟨v1, vs1, d1, ds1, p1, q1, rfl, rfl, rfl, h1, r01⟩ := trodAll_cons r00
  obtain ⟨rfl, rfl, rfl⟩ := trodAll_nil r01
  obtain rfl : args = #[v0, v1] := by cases args; simp_all
  obtain ⟨rfl, rfl⟩ := trodVars_none hV
  obtain ⟨n0, rfl, rfl, rfl, w0⟩ := open_int Try.underlying3 (hval 0 3 v0 rfl rfl) h0
  obtain ⟨l1, r1, i1, m1⟩ := reads_ints (hval 1 36 v1 rfl rfl) h1
  clear hA0 hval0
  refine (walk W n0 (isInt_of_wf w0) v1 l1 r1 i1 m1).mono fun e W' ⟨he, hb⟩ => ?_
  subst he
  exact ⟨_, rfl, law_post hW' rfl rfl (by kernel_rfl) (by kernel_rfl) hb⟩

theorem said : Rows.DevLastSaid :=
  OpenClaim.holds_of_wide 8 Try.f8 rfl rfl rfl rfl rfl rfl rfl ⟨rfl, rfl, rfl, rfl, rfl⟩ rfl rfl rfl rfl rfl (by kernel_rfl) Try.func8 (by kernel_rfl)
    (of_decide_eq_true (by kernel_rfl)) (by unfold Func.isWrapper; first | (rw [if_pos (by decide +kernel)]; kernel_rfl) | (rw [if_neg (by decide +kernel)]; exact ⟨rfl, rfl⟩))
    (fun os started H enc _ => lifted os started H enc)

end Go.Proofs.Ytlmhhoijbebcbaa.devLast
