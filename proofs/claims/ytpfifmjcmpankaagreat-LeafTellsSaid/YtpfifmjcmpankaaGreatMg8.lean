/-
  Walks over package num's Reader: a reader at block b holds the rest of its bytes and its error.
-/
import Derived.Test.YtpfifmjcmpankaaGreatMg6
import Derived.Test.YtpfifmjcmpankaaGreatMg7
namespace Go.Proofs.YtpfifmjcmpankaaGreat
open Go.RowKit Go.Lib

/-- The reader at block b: its bytes l are left, its error is n. -/
def Rd (w : World) (b : Nat) (l : List UInt8) (n : Int) : Prop := ∃ s : ByteArray, s.data.toList = l ∧ s.size ≤ 9223372036854775807 ∧ Has w b 142 #[.string s, .int .i64 n]

theorem Rd.inside {w : World} {b : Nat} {l : List UInt8} {n : Int} (h : Rd w b l n) : b < w.heap.size := by
  obtain ⟨s, _, _, h⟩ := h
  exact h.inside
theorem Rd.below {w w' : World} {b B : Nat} {l : List UInt8} {n : Int} (h : Rd w b l n) (hb : Below B w w') (hg : b < B) : Rd w' b l n := by
  obtain ⟨s, h1, h2, h⟩ := h
  exact ⟨s, h1, h2, h.below hb hg⟩
theorem Rd.len {w : World} {b : Nat} {l : List UInt8} {n : Int} (h : Rd w b l n) : l.length ≤ 9223372036854775807 := by
  obtain ⟨s, rfl, h2, _⟩ := h
  simpa using h2

set_option maxHeartbeats 400000 in
theorem err_nil (w : World) : Calls Tryz.prog 62 #[.pointer none] w fun e w' => e = .returned (.int .i64 1) ∧ w = w' := by
  go_enter Tryz.func62, Tryz.ntmps62
  go_wp2
  go_ret
  exact ⟨rfl, rfl⟩

set_option maxHeartbeats 400000 in
theorem err_at (b : Nat) (n : Int) (w : World) (hc : w.cell? ⟨b, 1, none⟩ = some (.int .i64 n)) :
    Calls Tryz.prog 62 #[.pointer (some ⟨b, 0, none⟩)] w fun e w' => e = .returned (.int .i64 n) ∧ w = w' := by
  go_enter Tryz.func62, Tryz.ntmps62
  go_wp2
  go_ret
  exact ⟨rfl, rfl⟩

set_option maxHeartbeats 400000 in
theorem end_nil (w : World) : Calls Tryz.prog 60 #[.pointer none] w fun e w' => e = .returned (.int .i64 1) ∧ w = w' := by
  go_enter Tryz.func60, Tryz.ntmps60
  go_wp2_with (go_at_call 62; refine (err_nil _).mono ?_; rintro e w' ⟨rfl, rfl⟩)
  go_ret
  exact ⟨rfl, rfl⟩

/-- What End tells. -/
def endOf (l : List UInt8) (n : Int) : Int := if n = 0 then (if l = [] then 0 else 4) else n

set_option maxHeartbeats 400000 in
theorem end_any (b : Nat) (l : List UInt8) (n : Int) (w : World) (h : Rd w b l n) :
    Calls Tryz.prog 60 #[.pointer (some ⟨b, 0, none⟩)] w fun e w' => e = .returned (.int .i64 (endOf l n)) ∧ w = w' := by
  obtain ⟨s, hl, hs, hb⟩ := h
  have c0 := hb.cell 0
  have c1 := hb.cell 1
  simp at c0 c1
  subst hl
  clear hb
  by_cases hn : n = 0
  · subst hn
    by_cases he : s.data.toList = []
    · have he' : s.toList = [] := by rw [ByteArray.toList_eq]; exact he
      go_enter Tryz.func60, Tryz.ntmps60
      go_wp2_with (go_at_call 62; refine (err_at _ _ _ c1).mono ?_; rintro e w' ⟨rfl, rfl⟩)
      go_ret
      exact ⟨ret_i64 (by rw [endOf, if_pos rfl, if_pos he]), rfl⟩
    · have he' : (!s.toList.isEmpty) = true := by rw [ByteArray.toList_eq]; simpa using he
      have he2 : s.toList.isEmpty = false := by simpa using he'
      go_enter Tryz.func60, Tryz.ntmps60
      go_wp2_with (go_at_call 62; refine (err_at _ _ _ c1).mono ?_; rintro e w' ⟨rfl, rfl⟩)
      go_ret
      exact ⟨ret_i64 (by rw [endOf, if_pos rfl, if_neg he]), rfl⟩
  · have hb1 : (n == 0) = false := by simpa using hn
    go_enter Tryz.func60, Tryz.ntmps60
    go_wp2_with (go_at_call 62; refine (err_at _ _ _ c1).mono ?_; rintro e w' ⟨rfl, rfl⟩)
    go_ret
    exact ⟨ret_i64 (by rw [endOf, if_neg hn]), rfl⟩

theorem groups_at (s : ByteArray) (u n er : Nat) (hs : s.size ≤ 9223372036854775807) (hg : Hid (gscan 0 0 s.data.toList = (u, n, er))) (w : World) :
    Calls Tryz.prog 160 #[.string s] w fun e w' => e = .returned (.tuple #[.int .u64 u, .int .i64 n, .int .i64 er]) ∧ w = w' := by
  have h := groups_any s hs w
  rw [hg.out] at h
  exact h

/-- What Var reads of the bytes l: the number, what is left, the error. -/
def rvar (l : List UInt8) : Int × List UInt8 × Int :=
  if (gscan 0 0 l).2.2 = 0 then (unzig (gscan 0 0 l).1, l.drop (gscan 0 0 l).2.1, 0) else (0, l, ((gscan 0 0 l).2.2 : Int))

/-- What a reader's call comes to: its answer v; the bytes l are left, the error is n; no other block has turned. -/
def RdPost (w : World) (b : Nat) (v : Value) (l : List UInt8) (n : Int) (e : Ending) (w' : World) : Prop := e = .returned v ∧ Rd w' b l n ∧ w.grownBy w' (some b)

theorem Rd.setRest {w : World} {b : Nat} {l : List UInt8} {n : Int} (h : Rd w b l n) (s : ByteArray) (hs : s.size ≤ 9223372036854775807) : RdPost w b .nilIface s.data.toList n (.returned .nilIface) (w.setCell ⟨b, 0, none⟩ (.string s)) := by
  obtain ⟨s0, _, _, h⟩ := h
  exact ⟨rfl, ⟨s, rfl, hs, by simpa using h.put 0 (.string s)⟩, grownBy_setCell w ⟨b, 0, none⟩ _⟩
theorem Rd.setErr {w : World} {b : Nat} {l : List UInt8} {n : Int} (h : Rd w b l n) (n' : Int) : RdPost w b .nilIface l n' (.returned .nilIface) (w.setCell ⟨b, 1, none⟩ (.int .i64 n')) := by
  obtain ⟨s0, h1, h2, h⟩ := h
  exact ⟨rfl, ⟨s0, h1, h2, by simpa using h.put 1 (.int .i64 n')⟩, grownBy_setCell w ⟨b, 1, none⟩ _⟩

set_option maxHeartbeats 400000 in
theorem rvar_err (b : Nat) (l : List UInt8) (n : Int) (w : World) (h : Rd w b l n) (hn : n ≠ 0) :
    Calls Tryz.prog 120 #[.pointer (some ⟨b, 0, none⟩)] w fun e w' => e = .returned (.int .i64 0) ∧ w = w' := by
  obtain ⟨s, hl, hs, hb⟩ := h
  have c1 := hb.cell 1
  simp at c1
  have hb1 : (n == 0) = false := by simpa using hn
  have hb2 : (n != 0) = true := by simpa using hn
  go_enter Tryz.func120, Tryz.ntmps120
  go_wp2_with (go_at_call 62; refine (err_at _ _ _ c1).mono ?_; rintro e w' ⟨rfl, rfl⟩)
  go_ret
  exact ⟨rfl, rfl⟩

set_option maxHeartbeats 400000 in
theorem rvar_any (b : Nat) (l : List UInt8) (w : World) (h : Rd w b l 0) :
    Calls Tryz.prog 120 #[.pointer (some ⟨b, 0, none⟩)] w (RdPost w b (.int .i64 (rvar l).1) (rvar l).2.1 (rvar l).2.2) := by
  have h' := h
  obtain ⟨s, hl, hs, hb⟩ := h
  have c0 := hb.cell 0
  have c1 := hb.cell 1
  simp at c0 c1
  subst hl
  have f0 := hb.free 0
  have f1 := hb.free 1
  clear hb
  have hle := gscan_n_le s.data.toList 0 0
  have hult := gscan_u_lt s.data.toList 0 0 (by omega) (by decide)
  rcases gscan_err s.data.toList 0 0 with ⟨h0, h1⟩ | h4 | h5
  · rcases hg : gscan 0 0 s.data.toList with ⟨u, n, er⟩
    rw [hg] at h0 h1 hle hult
    simp only at h0 h1 hle hult
    subst h0
    have hn : n ≤ s.size := by simpa using hle
    have HG := Lib.hid hg
    clear hg hle
    go_enter Tryz.func120, Tryz.ntmps120
    go_wp2_with (first | (go_at_call 62; refine (err_at _ _ _ c1).mono ?_; rintro e w' ⟨rfl, rfl⟩) | (go_at_call 160; refine (groups_at s u n 0 hs HG _).mono ?_; rintro e w' ⟨rfl, rfl⟩) | (go_at_call 161; refine (signed_any u hult _).mono ?_; rintro e w' ⟨rfl, rfl⟩))
    have hsz : (s.extract n s.size).size ≤ 9223372036854775807 := by simp; omega
    have hp := h'.setRest (s.extract n s.size) hsz
    have hv : rvar s.data.toList = (unzig u, s.data.toList.drop n, 0) := by unfold rvar; rw [HG.out]; rfl
    rw [hv]
    have hx : (s.extract n s.size).data.toList = s.data.toList.drop n := by simp; exact List.take_of_length_le (by simp)
    rw [hx] at hp
    go_ret
    exact ⟨rfl, hp.2.1, hp.2.2⟩
  · have hv : rvar s.data.toList = (0, s.data.toList, 4) := by unfold rvar; rw [h4]; rfl
    have HG := Lib.hid h4
    have HV := Lib.hid hv
    clear h4 hle hult hv
    go_enter Tryz.func120, Tryz.ntmps120
    go_wp2_with (first | (go_at_call 62; refine (err_at _ _ _ c1).mono ?_; rintro e w' ⟨rfl, rfl⟩) | (go_at_call 160; refine (groups_at s 0 0 4 hs HG _).mono ?_; rintro e w' ⟨rfl, rfl⟩))
    have hp := h'.setErr 4
    rw [HV.out]
    go_ret
    exact ⟨rfl, hp.2.1, hp.2.2⟩
  · have hv : rvar s.data.toList = (0, s.data.toList, 5) := by unfold rvar; rw [h5]; rfl
    have HG := Lib.hid h5
    have HV := Lib.hid hv
    clear h5 hle hult hv
    go_enter Tryz.func120, Tryz.ntmps120
    go_wp2_with (first | (go_at_call 62; refine (err_at _ _ _ c1).mono ?_; rintro e w' ⟨rfl, rfl⟩) | (go_at_call 160; refine (groups_at s 0 0 5 hs HG _).mono ?_; rintro e w' ⟨rfl, rfl⟩))
    have hp := h'.setErr 5
    rw [HV.out]
    go_ret
    exact ⟨rfl, hp.2.1, hp.2.2⟩

theorem rvar_rest (l : List UInt8) : (rvar l).2.1.length ≤ l.length := by
  unfold rvar
  split <;> simp

/-- What Count reads. -/
def rcount (most : Int) (l : List UInt8) : Int × List UInt8 × Int :=
  if (rvar l).2.2 ≠ 0 then (0, (rvar l).2) else if (rvar l).1 < 0 then (0, (rvar l).2.1, 4) else if most < (rvar l).1 then (0, (rvar l).2.1, 2) else rvar l

set_option maxHeartbeats 400000 in
theorem rcount_err (b : Nat) (l : List UInt8) (n most : Int) (w : World) (h : Rd w b l n) (hn : n ≠ 0) :
    Calls Tryz.prog 159 #[.pointer (some ⟨b, 0, none⟩), .int .i64 most] w fun e w' => e = .returned (.int .i64 0) ∧ w = w' := by
  have h' := h
  obtain ⟨s, hl, hs, hb⟩ := h
  have c1 := hb.cell 1
  simp at c1
  have hb1 : (n == 0) = false := by simpa using hn
  have hb2 : (n != 0) = true := by simpa using hn
  go_enter Tryz.func159, Tryz.ntmps159
  go_wp2_with (first | (go_at_call 62; refine (err_at _ _ _ c1).mono ?_; rintro e w' ⟨rfl, rfl⟩) | (go_at_call 120; refine (rvar_err _ _ _ _ h' hn).mono ?_; rintro e w' ⟨rfl, rfl⟩))
  go_ret
  exact ⟨rfl, rfl⟩

theorem RdPost.cells {w w' : World} {b : Nat} {v : Value} {l : List UInt8} {n : Int} {e : Ending} (h : RdPost w b v l n e w') :
    ∃ s : ByteArray, Hid (s.data.toList = l) ∧ s.size ≤ l.length ∧ l.length ≤ s.size ∧ w'.cell? ⟨b, 0, none⟩ = some (.string s) ∧ w'.cell? ⟨b, 1, none⟩ = some (.int .i64 n) ∧ w'.frozen? ⟨b, 0, none⟩ = false ∧ w'.frozen? ⟨b, 1, none⟩ = false := by
  obtain ⟨_, ⟨s, h1, h2, h3⟩, _⟩ := h
  have c0 := h3.cell 0
  have c1 := h3.cell 1
  simp at c0 c1
  have e := congrArg List.length h1
  simp at e
  exact ⟨s, h1, by omega, by omega, c0, c1, h3.free 0, h3.free 1⟩

theorem RdPost.thenErr {w w' : World} {b : Nat} {v : Value} {l : List UInt8} {n : Int} {e : Ending} (h : RdPost w b v l n e w') (v' : Value) (n' : Int) :
    RdPost w b v' l n' (.returned v') (w'.setCell ⟨b, 1, none⟩ (.int .i64 n')) := by
  obtain ⟨_, h1, h2⟩ := h
  have := h1.setErr n'
  exact ⟨rfl, this.2.1, grownBy_trans h2 this.2.2⟩

theorem RdPost.later {w w' w2 : World} {b : Nat} {v : Value} {l : List UInt8} {n : Int} {e : Ending} (h : RdPost w b v l n e w') (hb : Below w'.heap.size w' w2) (v' : Value) : RdPost w b v' l n (.returned v') w2 :=
  ⟨rfl, h.2.1.below hb h.2.1.inside, grownBy_trans h.2.2 (grownBy_of_below hb)⟩

set_option maxHeartbeats 400000 in
theorem rcount_any (b : Nat) (l : List UInt8) (most : Int) (w : World) (h : Rd w b l 0) :
    Calls Tryz.prog 159 #[.pointer (some ⟨b, 0, none⟩), .int .i64 most] w (RdPost w b (.int .i64 (rcount most l).1) (rcount most l).2.1 (rcount most l).2.2) := by
  have hr := rvar_any b l w h
  rcases hv : rvar l with ⟨x, r, n⟩
  rw [hv] at hr
  by_cases hn : n = 0
  · subst hn
    have hb2 : ((0 : Int) != 0) = false := rfl
    have hc : rcount most l = if x < 0 then (0, r, 4) else if most < x then (0, r, 2) else (x, r, 0) := by unfold rcount; rw [hv]; simp
    have HC := Lib.hid hc
    clear hc hv
    by_cases hx : x < 0
    · go_enter Tryz.func159, Tryz.ntmps159
      go_wp2_with (first | (go_at_call 120; refine hr.mono ?_; rintro e w' hp; have hq := hp.cells; obtain ⟨s, Hs, hs1, hs2, c0, c1, f0, f1⟩ := hq; obtain rfl := hp.1) | (go_at_call 62; refine (err_at _ _ _ (by assumption)).mono ?_; rintro e w'' ⟨rfl, rfl⟩))
      have hz : rcount most l = (0, r, 4) := by rw [HC.out, if_pos hx]
      rw [hz]
      go_ret
      exact hp.thenErr (.int .i64 0) 4
    · by_cases hm : most < x
      · go_enter Tryz.func159, Tryz.ntmps159
        go_wp2_with (first | (go_at_call 120; refine hr.mono ?_; rintro e w' hp; have hq := hp.cells; obtain ⟨s, Hs, hs1, hs2, c0, c1, f0, f1⟩ := hq; obtain rfl := hp.1) | (go_at_call 62; refine (err_at _ _ _ (by assumption)).mono ?_; rintro e w'' ⟨rfl, rfl⟩))
        have hz : rcount most l = (0, r, 2) := by rw [HC.out, if_neg (by omega), if_pos (by omega)]
        rw [hz]
        go_ret
        exact hp.thenErr (.int .i64 0) 2
      · go_enter Tryz.func159, Tryz.ntmps159
        go_wp2_with (first | (go_at_call 120; refine hr.mono ?_; rintro e w' hp; have hq := hp.cells; obtain ⟨s, Hs, hs1, hs2, c0, c1, f0, f1⟩ := hq; obtain rfl := hp.1) | (go_at_call 62; refine (err_at _ _ _ (by assumption)).mono ?_; rintro e w'' ⟨rfl, rfl⟩))
        have hz : rcount most l = (x, r, 0) := by rw [HC.out, if_neg (by omega), if_neg (by omega)]
        rw [hz]
        go_ret
        exact hp
  · have hb1 : (n == 0) = false := by simpa using hn
    have hb2 : (n != 0) = true := by simpa using hn
    have hc : rcount most l = (0, r, n) := by unfold rcount; rw [hv]; simp [hn]
    have HC := Lib.hid hc
    clear hc hv
    go_enter Tryz.func159, Tryz.ntmps159
    go_wp2_with (first | (go_at_call 120; refine hr.mono ?_; rintro e w' hp; have hq := hp.cells; obtain ⟨s, Hs, hs1, hs2, c0, c1, f0, f1⟩ := hq; obtain rfl := hp.1) | (go_at_call 62; refine (err_at _ _ _ (by assumption)).mono ?_; rintro e w'' ⟨rfl, rfl⟩))
    rw [HC.out]
    go_ret
    exact ⟨rfl, hp.2⟩

theorem rcount_rest (most : Int) (l : List UInt8) : (rcount most l).2.1.length ≤ l.length := by
  have := rvar_rest l
  unfold rcount
  split
  · exact this
  · split
    · exact this
    · split <;> exact this

theorem rcount_nonneg (most : Int) (l : List UInt8) : 0 ≤ (rcount most l).1 := by
  unfold rcount
  split
  · simp
  · split
    · simp
    · split
      · simp
      · omega

/-- What Text reads. -/
def rtext (most : Int) (l : List UInt8) : List UInt8 × List UInt8 × Int :=
  if (rcount most l).2.2 ≠ 0 then ([], (rcount most l).2)
  else if ((rcount most l).2.1.length : Int) < (rcount most l).1 then ([], (rcount most l).2.1, 5)
  else ((rcount most l).2.1.take (rcount most l).1.toNat, (rcount most l).2.1.drop (rcount most l).1.toNat, 0)

set_option maxHeartbeats 400000 in
theorem rtext_err (b : Nat) (l : List UInt8) (n most : Int) (w : World) (h : Rd w b l n) (hn : n ≠ 0) :
    Calls Tryz.prog 119 #[.pointer (some ⟨b, 0, none⟩), .int .i64 most] w fun e w' => e = .returned (.string ByteArray.empty) ∧ w = w' := by
  have h' := h
  obtain ⟨s, hl, hs, hb⟩ := h
  have c1 := hb.cell 1
  simp at c1
  have hb1 : (n == 0) = false := by simpa using hn
  have hb2 : (n != 0) = true := by simpa using hn
  go_enter Tryz.func119, Tryz.ntmps119
  go_wp2_with (first | (go_at_call 62; refine (err_at _ _ _ c1).mono ?_; rintro e w' ⟨rfl, rfl⟩) | (go_at_call 159; refine (rcount_err _ _ _ _ _ h' hn).mono ?_; rintro e w' ⟨rfl, rfl⟩))
  go_ret
  exact ⟨rfl, rfl⟩

set_option maxHeartbeats 400000 in
theorem rtext_any (b : Nat) (l : List UInt8) (most : Int) (w : World) (h : Rd w b l 0) (hlen : l.length ≤ 281474976710656) :
    Calls Tryz.prog 119 #[.pointer (some ⟨b, 0, none⟩), .int .i64 most] w (RdPost w b (.string ⟨(rtext most l).1.toArray⟩) (rtext most l).2.1 (rtext most l).2.2) := by
  have hr := rcount_any b l most w h
  have hrest := rcount_rest most l
  have hnn := rcount_nonneg most l
  rcases hv : rcount most l with ⟨x, r, n⟩
  rw [hv] at hr hrest hnn
  by_cases hn : n = 0
  · subst hn
    have hb2 : ((0 : Int) != 0) = false := rfl
    obtain ⟨k, rfl⟩ : ∃ k : Nat, x = k := ⟨x.toNat, by simp at hnn; omega⟩
    have hc : rtext most l = if (r.length : Int) < (k : Int) then ([], r, 5) else (r.take k, r.drop k, 0) := by unfold rtext; rw [hv]; simp
    have HC := Lib.hid hc
    clear hc hv
    simp only at hrest
    by_cases hx : r.length < k
    · go_enter Tryz.func119, Tryz.ntmps119
      go_wp2_with (first | (go_at_call 159; refine hr.mono ?_; rintro e w' hp; have hq := hp.cells; obtain ⟨s, Hs, hs1, hs2, c0, c1, f0, f1⟩ := hq; have hsl : s.size < k := Nat.lt_of_le_of_lt hs1 hx; obtain rfl := hp.1) | (go_at_call 62; refine (err_at _ _ _ (by assumption)).mono ?_; rintro e w'' ⟨rfl, rfl⟩))
      have hz : rtext most l = ([], r, 5) := by rw [HC.out, if_pos (by omega)]
      rw [hz]
      go_ret
      exact hp.thenErr (.string ⟨([] : List UInt8).toArray⟩) 5
    · go_enter Tryz.func119, Tryz.ntmps119
      go_wp2_with (first | (go_at_call 159; refine hr.mono ?_; rintro e w' hp; have hq := hp.cells; obtain ⟨s, Hs, hs1, hs2, c0, c1, f0, f1⟩ := hq; have hsl : k ≤ s.size := Nat.le_trans (Nat.le_of_not_lt hx) hs2; have hsm : s.size ≤ 281474976710656 := Nat.le_trans (Nat.le_trans hs1 hrest) hlen; obtain rfl := hp.1) | (go_at_call 62; refine (err_at _ _ _ (by assumption)).mono ?_; rintro e w'' ⟨rfl, rfl⟩))
      refine (tclone_any _ ?_ _).mono ?_
      · simp; omega
      rintro e w2 ⟨rfl, hb⟩
      have hin := hp.2.1.inside
      have d0 : w2.cell? ⟨b, 0, none⟩ = some (.string s) := (hb.cell (p := ⟨b, 0, none⟩) hin).trans c0
      have d1 : w2.frozen? ⟨b, 0, none⟩ = false := (hb.frozen (p := ⟨b, 0, none⟩) hin).trans f0
      have hq := hp.later hb .nilIface
      clear hb c0 f0 c1 f1
      go_wp2
      have hz : rtext most l = (r.take k, r.drop k, 0) := by rw [HC.out, if_neg (by omega)]
      have hsz : (s.extract k s.size).size ≤ 9223372036854775807 := by simp; omega
      have hx := hq.2.1.setRest (s.extract k s.size) hsz
      have e1 : (s.extract k s.size).data.toList = r.drop k := by rw [← Hs.out]; simp; exact List.take_of_length_le (by simp)
      have e2 : (⟨(r.take k).toArray⟩ : ByteArray) = s.extract 0 k := by
        apply ByteArray.ext
        apply Array.ext'
        rw [← Hs.out]
        simp
      rw [hz, e2]
      rw [e1] at hx
      go_ret
      exact ⟨rfl, hx.2.1, grownBy_trans hq.2.2 hx.2.2⟩
  · have hb1 : (n == 0) = false := by simpa using hn
    have hb2 : (n != 0) = true := by simpa using hn
    have hc : rtext most l = ([], r, n) := by unfold rtext; rw [hv]; simp [hn]
    have HC := Lib.hid hc
    clear hc hv
    go_enter Tryz.func119, Tryz.ntmps119
    go_wp2_with (first | (go_at_call 159; refine hr.mono ?_; rintro e w' hp; have hq := hp.cells; obtain ⟨s, Hs, hs1, hs2, c0, c1, f0, f1⟩ := hq; obtain rfl := hp.1) | (go_at_call 62; refine (err_at _ _ _ (by assumption)).mono ?_; rintro e w'' ⟨rfl, rfl⟩))
    rw [HC.out]
    go_ret
    exact ⟨rfl, hp.2⟩

/-- What Bool reads. -/
def rbool : List UInt8 → Bool × List UInt8 × Int
  | [] => (false, [], 5)
  | c :: r => if 1 < c.toNat then (false, c :: r, 4) else (decide (c.toNat = 1), r, 0)

set_option maxHeartbeats 400000 in
theorem rbool_err (b : Nat) (l : List UInt8) (n : Int) (w : World) (h : Rd w b l n) (hn : n ≠ 0) :
    Calls Tryz.prog 133 #[.pointer (some ⟨b, 0, none⟩)] w fun e w' => e = .returned (.bool false) ∧ w = w' := by
  obtain ⟨s, hl, hs, hb⟩ := h
  have c1 := hb.cell 1
  simp at c1
  have hb1 : (n == 0) = false := by simpa using hn
  have hb2 : (n != 0) = true := by simpa using hn
  go_enter Tryz.func133, Tryz.ntmps133
  go_wp2_with (go_at_call 62; refine (err_at _ _ _ c1).mono ?_; rintro e w' ⟨rfl, rfl⟩)
  go_ret
  exact ⟨rfl, rfl⟩

set_option maxHeartbeats 400000 in
theorem rbool_any (b : Nat) (l : List UInt8) (w : World) (h : Rd w b l 0) :
    Calls Tryz.prog 133 #[.pointer (some ⟨b, 0, none⟩)] w (RdPost w b (.bool (rbool l).1) (rbool l).2.1 (rbool l).2.2) := by
  have h' := h
  obtain ⟨s, hl, hs, hb⟩ := h
  have c0 := hb.cell 0
  have c1 := hb.cell 1
  simp at c0 c1
  have f0 := hb.free 0
  have f1 := hb.free 1
  clear hb
  cases l with
  | nil =>
    have he' : s.toList = [] := by rw [ByteArray.toList_eq]; exact hl
    clear hl
    go_enter Tryz.func133, Tryz.ntmps133
    go_wp2_with (go_at_call 62; refine (err_at _ _ _ c1).mono ?_; rintro e w' ⟨rfl, rfl⟩)
    have hp := h'.setErr 5
    go_ret
    exact ⟨rfl, hp.2⟩
  | cons c r =>
    have he : s.toList.isEmpty = false := by rw [ByteArray.toList_eq, hl]; rfl
    have hsz : 0 < s.size := by have := congrArg List.length hl; simp at this; omega
    have hc : s[0] = c := by
      have e : s.data.toList[0]? = some c := by rw [hl]; rfl
      have e' : s.data[0]'(by simpa using hsz) = c := by simpa [hsz] using e
      exact e'
    have Hl := Lib.hid hl
    clear hl
    by_cases h1 : 1 < c.toNat
    · have hz : rbool (c :: r) = (false, c :: r, 4) := by show (if 1 < c.toNat then _ else _) = _; rw [if_pos h1]
      have HZ := Lib.hid hz
      clear hz
      go_enter Tryz.func133, Tryz.ntmps133
      go_wp2_with (go_at_call 62; refine (err_at _ _ _ c1).mono ?_; rintro e w' ⟨rfl, rfl⟩)
      have hp := h'.setErr 4
      rw [HZ.out]
      go_ret
      exact ⟨rfl, hp.2⟩
    · have hz : rbool (c :: r) = (decide (c.toNat = 1), r, 0) := by show (if 1 < c.toNat then _ else _) = _; rw [if_neg h1]
      have HZ := Lib.hid hz
      clear hz
      go_enter Tryz.func133, Tryz.ntmps133
      go_wp2_with (go_at_call 62; refine (err_at _ _ _ c1).mono ?_; rintro e w' ⟨rfl, rfl⟩)
      have hx := h'.setRest (s.extract 1 s.size) (by simp; omega)
      have e1 : (s.extract 1 s.size).data.toList = r := by simp [Hl.out]; exact List.take_of_length_le (by have := congrArg List.length Hl.out; simp at this; omega)
      have e2 : (decide (c.toNat = 1)) = ((c.toNat : Int) == 1) := by
        rw [Bool.eq_iff_iff]
        simp
        omega
      rw [e1] at hx
      rw [HZ.out, e2]
      go_ret
      exact ⟨rfl, hx.2⟩

set_option maxHeartbeats 400000 in
theorem new_any (s : ByteArray) (w : World) (hs : s.size ≤ 9223372036854775807) :
    Calls Tryz.prog 59 #[.string s] w fun e w' => e = .returned (.pointer (some ⟨w.heap.size, 0, none⟩)) ∧ Rd w' w.heap.size s.data.toList 0 ∧ Below w.heap.size w w' := by
  go_enter Tryz.func59, Tryz.ntmps59
  go_wp2
  go_ret
  exact ⟨rfl, ⟨s, rfl, hs, Has.made _ _ _⟩, (Below.refl _ _).alloc (Nat.le_refl _) _⟩
end Go.Proofs.YtpfifmjcmpankaaGreat
