/-
  PagerKeeps: whatever is made, dropped and flushed, no page that was not free ahead of it is made, or written to, and what was made is read as it was made. For every number of pages and every list of numbers and of things that are done. Conditions: the variables that the row lists are laid as its card says.
-/
import Derived.Test.YtmcfldcpmjdfbaaGreatDoorMg47
import Derived.Test.YtmcfldcpmjdfbaaGreatDoorMg50
import Derived.Test.YtmcfldcpmjdfbaaGreatDoorMg37
import Derived.Test.YtmcfldcpmjdfbaaGreatDoorMg51
namespace Go.Proofs.YtmcfldcpmjdfbaaGreatDoor.pagerKeeps
open Go.RowKit Go.Sort Go.Lib Go.ChangeShapes Go.WideShapes Go.ChangeAt

theorem Reads1.form {w : World} {B : Nat} {v : Value} {l : List Int} (h : Reads1 w B v (l.map (.int .i64))) : ∃ A c, v = .slice A l.length c := by
  obtain ⟨A, c, rfl, h⟩ := h
  exact ⟨A, c, by simp⟩
theorem reads_at {w w' : World} {B : Nat} {v : Value} {l : List Int} (h : Reads1 w B v (l.map (.int .i64))) (hb : Below B w w') (j : Nat) (hj : j < l.length) : ∃ b off c, v = .slice (some ⟨b, off, none⟩) l.length c ∧ w'.cell? ⟨b, off + j, none⟩ = some (.int .i64 l[j]) := by
  obtain ⟨A, c, rfl, h⟩ := h
  obtain ⟨b, off, rfl, hlt, hc⟩ := h (by simp; omega)
  exact ⟨b, off, c, by simp, (hb.cell (p := ⟨b, off + j, none⟩) hlt).trans (hc j _ (by rw [List.getElem?_map, List.getElem?_eq_getElem hj]; rfl))⟩

theorem ReadsO.sub {w : World} {F G : List Nat} {v : Value} {xs : List Value} (h : ReadsO F w v xs) (hs : ∀ x ∈ G, x ∈ F) : ReadsO G w v xs := by
  obtain ⟨A, c, rfl, h⟩ := h
  refine ⟨A, c, rfl, fun h0 => ?_⟩
  obtain ⟨b, off, rfl, hlt, hb, hc⟩ := h h0
  exact ⟨b, off, rfl, hlt, fun hx => hb (hs b hx), hc⟩

/-- The old content of a page, as a text; what the document's own Open tells of it. -/
theorem old_seal (i : Int) (h0 : 2 ≤ i) (h1 : i ≤ 40) (w : World) : Calls Tryz.prog 22 #[.int .i64 i, .agg #[.int .i64 2, .int .i64 0, .string ⟨#[111, 108, 100]⟩]] w fun e w' => e = .returned (.tuple #[.string (oldB i), .int .i64 0]) ∧ Below w.heap.size w w' := by
  have h := refSeal_any i 2 0 ⟨#[111, 108, 100]⟩ w (by decide)
  have e : sealE i 2 0 (⟨#[111, 108, 100]⟩ : ByteArray).size = 0 := by
    unfold sealE
    rw [if_pos (by unfold SealOK; omega), if_pos (by decide)]
  rw [e] at h
  exact h
theorem old_size (i : Int) (h0 : 2 ≤ i) (h1 : i ≤ 40) : (oldB i).size = 256 := seal_size (x := i) (c := ⟨1, 2, 0, ⟨#[111, 108, 100]⟩⟩) (by
  show sealE i 2 0 3 = 0
  unfold sealE
  rw [if_pos (by unfold SealOK; omega), if_pos (by decide)])
theorem old_open (i : Int) (h0 : 2 ≤ i) (h1 : i ≤ 40) (w : World) : Calls Tryz.prog 28 #[.int .i64 i, .string (oldB i)] w fun e w' => e = .returned (.tuple #[.agg #[.int .i64 2, .int .i64 0, .string ⟨#[111, 108, 100]⟩], .int .i64 0]) ∧ Below w.heap.size w w' := by
  have h := refOpen_any i (oldB i) w (by unfold IsInt; omega)
  obtain ⟨n, rfl⟩ : ∃ n : Nat, i = n := ⟨i.toNat, by omega⟩
  have hX : (oldB n).data.toList = pageB 2 n 0 [111, 108, 100] := by
    show (⟨(sealB n 2 0 [111, 108, 100]).toArray⟩ : ByteArray).data.toList = _
    unfold sealB
    rw [if_pos ⟨by unfold SealOK; omega, by decide⟩]
    simp
  rw [hX] at h
  have ho := page_open (kind := 2) (id := n) (next := 0) (s := [111, 108, 100]) (by decide) (by decide) (by omega) (by decide) (by decide)
  rw [ho] at h
  exact h
/-- A device to whose pages their old content is written, up to a page. -/
structure DW (q : Nat) (j : Nat) (d : DevS) : Prop where
  few : FewD d j
  ok : DevOK d
  most : d.most = 60
  len : d.pages.length = q
  old : ∀ i : Nat, 2 ≤ i → i < 2 + j → d.pages[i]? = some (oldB i)
  line : ∀ x ∈ d.line, x.2 = oldB x.1
theorem DW.new (q : Nat) (_hq : q ≤ 40) (hok : DevOK (longer (newS 60) q)) : DW q 0 (longer (newS 60) q) where
  few := ⟨longer_idle (newS_idle 60) q, Nat.zero_le _, Nat.zero_le _⟩
  ok := hok
  most := rfl
  len := longer_new_len 60 q
  old := fun i a b => by omega
  line := fun x hx => by simp [longer, newS] at hx
theorem DW.next {q j : Nat} {d : DevS} (h : DW q j d) (hj : 2 + j < q) (hq : q ≤ 40) : faultE d (2 + j : Int) (oldB (2 + j : Int)) = 0 ∧ DW q (j + 1) (wroteS d (2 + j : Int) (oldB (2 + j : Int))) := by
  have hsz := old_size (2 + j : Int) (by omega) (by omega)
  have hl := h.len
  have hf : faultE d (2 + j : Int) (oldB (2 + j : Int)) = 0 := by
    unfold faultE
    rw [if_pos ⟨by omega, by omega⟩, if_pos hsz]
  refine ⟨hf, h.few.wrote _ _, wrote_ok h.ok hf, h.most, (wrote_len _ _ _).trans h.len, fun i a b => ?_, fun x hx => ?_⟩
  · simp only [wroteS]
    have e : (2 + j : Int).toNat = 2 + j := by omega
    rw [e]
    by_cases hi : 2 + j = i
    · subst hi
      rw [List.getElem?_set_self (by omega)]
      rfl
    · rw [List.getElem?_set_ne hi]
      exact h.old i a (by omega)
  · have hx' : x ∈ d.line ++ [((2 + j : Int), oldB (2 + j : Int))] := hx
    rcases List.mem_append.1 hx' with h1 | h1
    · exact h.line x h1
    · simp at h1
      subst h1
      rfl
theorem DW.done {q j : Nat} {d : DevS} (h : DW q j d) (hj : 2 + j = q) (hq : q ≤ 60) (was : List Int) : KD q was d j where
  few := h.few
  ok := h.ok
  most := h.most
  len := by rw [h.len]; omega
  top := by rw [h.len]; exact hq
  old := fun i a b _ => h.old i (by omega) (by omega)
  line := fun x hx i e a b _ => by
    rw [h.line x hx]
    have := (h.ok.line x hx).1
    congr 1
    omega

set_option maxRecDepth 1000000 in
set_option maxHeartbeats 4000000 in
theorem walk_heavy (w : World) (q : Int) (v0 : Value) (l0 : List Int) (r0 : Reads1 w w.heap.size v0 (l0.map (.int .i64))) (_m0 : l0.length ≤ 9223372036854775807) (v1 : Value) (b : Bool)
    (hlg : Calls Tryz.prog 20 #[v1] w fun e w' => e = .returned (.bool b) ∧ w = w') (h : b = false ∨ b = true ∧ (q < 2 ∨ ¬ q < 2 ∧ (30 < q ∨ ¬ 30 < q ∧ 30 < l0.length))) :
    Calls Tryz.prog 4 #[.int .i64 q, v0, v1] w fun e w' => e = .returned (.bool true) ∧ Below w.heap.size w w' := by
  obtain ⟨A0, c0, rfl⟩ := Reads1.form r0
  clear r0
  generalize l0.length = n0 at *
  have hal := alive7_any w
  rcases h with rfl | ⟨rfl, h | ⟨h1, h | ⟨h2, h⟩⟩⟩
  · go_enter Tryz.func4, Tryz.ntmps4
    go_wp2_with fail
    refine hlg.mono ?_
    rintro e w' ⟨rfl, rfl⟩
    go_wp2_with fail
    refine hal.mono ?_
    rintro e w1 ⟨rfl, hb⟩
    go_wp2_with fail
    go_ret
    exact ⟨rfl, hb⟩
  · have e1 : decide (q < 2) = true := by simpa using h
    clear h
    go_enter Tryz.func4, Tryz.ntmps4
    go_wp2_with fail
    refine hlg.mono ?_
    rintro e w' ⟨rfl, rfl⟩
    go_wp2_with fail
    refine hal.mono ?_
    rintro e w1 ⟨rfl, hb⟩
    go_wp2_with fail
    go_ret
    exact ⟨rfl, hb⟩
  · have e1 : decide (q < 2) = false := by simpa using h1
    have e2 : decide (30 < q) = true := by simpa using h
    clear h h1
    go_enter Tryz.func4, Tryz.ntmps4
    go_wp2_with fail
    refine hlg.mono ?_
    rintro e w' ⟨rfl, rfl⟩
    go_wp2_with fail
    refine hal.mono ?_
    rintro e w1 ⟨rfl, hb⟩
    go_wp2_with fail
    go_ret
    exact ⟨rfl, hb⟩
  · have e1 : decide (q < 2) = false := by simpa using h1
    have e2 : decide (30 < q) = false := by simpa using h2
    have e3 : decide ((30 : Int) < (n0 : Int)) = true := by simp; omega
    clear h h1 h2
    go_enter Tryz.func4, Tryz.ntmps4
    go_wp2_with fail
    refine hlg.mono ?_
    rintro e w' ⟨rfl, rfl⟩
    go_wp2_with fail
    refine hal.mono ?_
    rintro e w1 ⟨rfl, hb⟩
    go_wp2_with fail
    go_ret
    exact ⟨rfl, hb⟩

set_option maxRecDepth 1000000 in
set_option maxHeartbeats 16000000 in
theorem walk_whole (w : World) (q : Nat) (hq2 : 2 ≤ q) (hq30 : q ≤ 30) (v0 : Value) (l0 : List Int) (r0 : Reads1 w w.heap.size v0 (l0.map (.int .i64))) (h30 : l0.length ≤ 30) (v1 : Value) (os : List POp) (r1 : ReadsPOps w w.heap.size v1 os) (hok : ∀ o ∈ os, o.ok)
    (h150 : os.length ≤ 150) (h300 : ∀ o ∈ os, o.t.size ≤ 300) (hlg : Calls Tryz.prog 20 #[v1] w fun e w' => e = .returned (.bool true) ∧ w = w') :
    Calls Tryz.prog 4 #[.int .i64 q, v0, v1] w fun e w' => e = .returned (.bool true) ∧ Below w.heap.size w w' := by
  have R0 := Lib.hid r0
  have R1 := Lib.hid (And.intro r1 (And.intro hok h300))
  obtain ⟨A0, c0, rfl⟩ := Reads1.form r0
  obtain ⟨A1, c1, rfl⟩ := r1.form
  obtain ⟨n0, hn0⟩ : ∃ n, l0.length = n := ⟨_, rfl⟩
  obtain ⟨n1, hn1⟩ : ∃ n, os.length = n := ⟨_, rfl⟩
  have HN := Lib.hid (And.intro hn0 hn1)
  rw [hn0] at h30
  rw [hn1] at h150 hlg
  rw [hn0, hn1]
  have hbs := base7_ok (w := w) (v := .slice none 0 0) (l := []) 60 q (by omega) (by omega) (by omega) (Reads1.empty _ _ _ _) (by simp)
  have e1 : decide ((q : Int) < 2) = false := by simp; omega
  have e2 : decide ((30 : Int) < (q : Int)) = false := by simp; omega
  have e3 : decide ((30 : Int) < (n0 : Int)) = false := by simp; omega
  clear r0 r1 hok h300 hn0 hn1
  go_enter Tryz.func4, Tryz.ntmps4
  go_wp2_with fail
  refine hlg.mono ?_
  rintro e w' ⟨rfl, rfl⟩
  clear hlg
  go_wp2_with fail
  refine hbs.mono ?_
  rintro e w1 ⟨pd, qd, pf, qf, FD, FF, rfl, hdv, hf, hge, hfg, hap, hb⟩
  have H1 := Lib.hid (And.intro hdv (And.intro hf (And.intro hge (And.intro hfg (And.intro hap (And.intro hb (DW.new q (by omega) hdv.ok)))))))
  obtain ⟨m, hm⟩ : ∃ m, q = 2 + m := ⟨q - 2, by omega⟩
  have HM := Lib.hid hm
  have hmb : m ≤ 28 := by omega
  clear hbs hdv hf hge hfg hap hb hm e1 e2 e3
  go_wp2_with fail
  go_loopg [12] m (fun g iv wr => ∃ (j : Nat) (d : DevS) (FD : List Nat), iv = .int .i64 (2 + j) ∧ j + g = m ∧ DevAt wr pd d FD ∧ FreeIs pf wr FF [] 0 [] [] ∧ (∀ x ∈ FD, w.heap.size ≤ x) ∧ (∀ x ∈ FD, x ∉ FF) ∧ Below w.heap.size w wr ∧ DW q j d)
  case atStart =>
    obtain ⟨h1, h2, h3, h4, h5, h6, h7⟩ := H1.out
    exact ⟨0, _, FD, rfl, by omega, h1, h2, h3, h5, h6, h7⟩
  case round =>
    have HFG := Lib.hid H1.out.2.2.2.1
    clear H1
    obtain ⟨j, d, FD, rfl, hjg, hdv, hf, hge, hap, hbw, hdw⟩ := hrel
    have hjb : (j : Int) ≤ 28 := by omega
    by_cases hlt : j < m
    · have hd : decide ((2 : Int) + (j : Int) < (q : Int)) = true := by have := HM.out; simp; omega
      have hsl := old_seal (2 + j) (by omega) (by omega) wr
      obtain ⟨hfault, hnext⟩ := hdw.next (by have := HM.out; omega) (by omega)
      have HR := Lib.hid (And.intro hdv (And.intro hf (And.intro hge (And.intro hap (And.intro hbw (And.intro hdw (And.intro hfault hnext)))))))
      generalize oldB (2 + j) = B at *
      clear hdv hf hge hap hbw hdw hfault hnext
      go_wp2_with fail
      refine hsl.mono ?_
      rintro e w2 ⟨rfl, hb2⟩
      obtain ⟨hdv, hf, hge, hap, hbw, hdw, hfault, hnext⟩ := HR.out
      have hwr := write_any pd d FD (2 + j) B w2 (hdv.goes hb2).1 (by have := hdw.few.cap; omega)
      have hwE : writeE d (2 + j) B = 0 ∧ writeS d (2 + j) B = wroteS d (2 + j) B := by
        unfold writeE writeS
        rw [hdw.few.idle.pow, if_pos hdw.few.idle.on, if_pos hdw.few.idle.on, if_pos hdw.few.idle.on, if_pos hfault]
        exact ⟨hfault, rfl⟩
      rw [hwE.1, hwE.2] at hwr
      have HR2 := Lib.hid (And.intro (hf.below hb2) (And.intro hge (And.intro hap (And.intro (hbw.trans (hb2.mono hbw.size)) (And.intro hnext hf.lt)))))
      clear hsl hb2 hdv hf hge hap hbw hdw hfault hnext hwE HR
      go_wp2_with fail
      refine hwr.mono ?_
      rintro e w3 ⟨rfl, FD2, hdv3, hg3⟩
      have H3 := Lib.hid (And.intro hdv3 hg3)
      clear hwr hdv3 hg3
      go_wp2_with fail
      go_roundg (m - (j + 1))
      case measure => omega
      case rel =>
        obtain ⟨hf, hge, hap, hbw, hnext, hflt⟩ := HR2.out
        obtain ⟨hdv3, hg3⟩ := H3.out
        refine ⟨j + 1, _, FD2, by go_num, by omega, hdv3, hf.kept hg3.1 (fun x hx hd => hap x hd hx), fun x hx => (hg3.2 x hx).elim (hge x) (fun h => Nat.le_trans hbw.size h), fun x hx hx' => ?_, hbw.trans (hg3.1.below hbw.size hge), hnext⟩
        rcases hg3.2 x hx with h | h
        · exact hap x h hx'
        · have := hf.lt x hx'
          omega
    · obtain rfl : j = m := by omega
      have hd : decide ((2 : Int) + (j : Int) < (q : Int)) = false := by have := HM.out; simp; omega
      have hKD := hdw.done (by have := HM.out; omega) (by omega) l0
      have hsy := sync_any pd d FD wr hdv (by have := hdw.few.line; omega)
      rw [(hdw.few.idle.sync).1, (hdw.few.idle.sync).2] at hsy
      have HR := Lib.hid (And.intro hf (And.intro hge (And.intro hap (And.intro hbw hKD))))
      clear hdv hf hge hap hbw hdw hKD hlt hjg
      go_wp2_with fail
      refine hsy.mono ?_
      rintro e w2 ⟨rfl, hdv2, hk2⟩
      obtain ⟨hf, hge, hap, hbw, hKD⟩ := HR.out
      have HS := Lib.hid (And.intro hdv2 (And.intro (hf.kept hk2 (fun x hx hd => hap x hd hx)) (And.intro hge (And.intro hap (And.intro (hbw.trans (hk2.below hbw.size hge)) (hKD.sync hdv2.ok))))))
      clear hsy hdv2 hk2 hf hge hap hbw hKD HR hd
      go_wp2_with fail
      go_loopg [15, 16] n0 (fun g fv iv wr => ∃ (j : Nat), iv = .int .i64 j ∧ j + g = n0 ∧ wr.ownsRow w2.heap.size 3 1 fv j ((l0.take j).map (.int .i64)) ∧ Below w2.heap.size w2 wr ∧ (∀ x ∈ l0.take j, 2 ≤ x ∧ x < (q : Int)) ∧ (l0.take j).Nodup)
      case atStart => exact ⟨0, rfl, by omega, World.ownsRow_nil _ _ _ _, Below.refl _ _, by simp, by simp⟩
      case round =>
        obtain ⟨i, rfl, hig, hown, hb2w, hbd, hnd⟩ := hrel
        have hbw : Below w.heap.size w wr := HS.out.2.2.2.2.1.trans (hb2w.mono HS.out.2.2.2.2.1.size)
        obtain ⟨Af, cf, hform⟩ := row_form hown
        subst hform
        by_cases hlt : i < n0
        · have hd : decide ((i : Int) < (n0 : Int)) = true := by simp; omega
          have hjl : i < l0.length := by rw [HN.out.1]; exact hlt
          obtain ⟨b, off, c, hv, hck⟩ := reads_at R0.out hbw i hjl
          simp only [Value.slice.injEq] at hv
          obtain ⟨rfl, _, rfl⟩ := hv
          have htk := take_snoc1 l0 i hjl
          have hlen : (l0.take i).length = i := by simp; omega
          have hj0 : (0 : Int) ≤ (i : Int) := by omega
          have hj1 : (i : Int) < (n0 : Int) := by omega
          generalize l0[i] = x at *
          have hro : ReadsO [] wr (.slice Af i cf) ((l0.take i).map (.int .i64)) := row_readsO hown (by simp)
          have hin := in_any (w := wr) x hro (by omega)
          have HR := Lib.hid (And.intro hown (And.intro hb2w (And.intro hbd (And.intro hnd (And.intro htk (And.intro hlen hbw))))))
          have hal := alive7_any wr
          clear hown hb2w hbw hbd hnd htk hlen hro hjl
          by_cases a1 : x < 2
          · have e1 : decide (x < 2) = true := by simpa using a1
            clear hin
            go_wp2_with fail
            refine hal.mono ?_
            rintro e w3 ⟨rfl, hb3⟩
            go_wp2_with fail
            go_ret
            exact ⟨rfl, HR.out.2.2.2.2.2.2.trans (hb3.mono HR.out.2.2.2.2.2.2.size)⟩
          · have e1 : decide (x < 2) = false := by simpa using a1
            by_cases a2 : (q : Int) ≤ x
            · have e2 : decide ((q : Int) ≤ x) = true := by simpa using a2
              clear hin
              go_wp2_with fail
              refine hal.mono ?_
              rintro e w3 ⟨rfl, hb3⟩
              go_wp2_with fail
              go_ret
              exact ⟨rfl, HR.out.2.2.2.2.2.2.trans (hb3.mono HR.out.2.2.2.2.2.2.size)⟩
            · have e2 : decide ((q : Int) ≤ x) = false := by simpa using a2
              by_cases a3 : x ∈ l0.take i
              · rw [decide_eq_true a3] at hin
                go_wp2_with fail
                refine hin.mono ?_
                rintro e w' ⟨rfl, rfl⟩
                go_wp2_with fail
                refine hal.mono ?_
                rintro e w3 ⟨rfl, hb3⟩
                go_wp2_with fail
                go_ret
                exact ⟨rfl, HR.out.2.2.2.2.2.2.trans (hb3.mono HR.out.2.2.2.2.2.2.size)⟩
              · rw [decide_eq_false a3] at hin
                obtain ⟨i0, hi0, hzz0, hzz1, hzz2⟩ := info_parts Tryz.infoInt
                have hra := World.ownsRow.alloc (row_base0 HR.out.1) (.cells #[.int .i64 x] 3)
                have HX := Lib.hid (And.intro a1 (And.intro a2 a3))
                clear a1 a2 a3 hal
                go_wp2_with fail
                refine hin.mono ?_
                rintro e w' ⟨rfl, rfl⟩
                clear hin
                go_wp2_with (at_builtin; refine wpList_append_keeps rfl _ _ 27 3 i0 (.int .i64 0) 1 8 Tryz.underlying27 hi0 hzz0 hzz1 hzz2 rfl (by decide) rfl _ (.slice Af i cf) i _ rfl hra ⟨wr.heap.size, 0, none⟩ 1 1 rfl [.int .i64 x] rfl (cell_one_new _ _ _) (by intro u hu; simp at hu; subst hu; rfl) (by omega) (by unfold maxLen; omega) (by omega) ?_; intro v' w' hown' hgn)
                go_roundg (n0 - (i + 1))
                case measure => omega
                case rel =>
                  obtain ⟨hown, hbw, hbd, hnd, htk, hlen, -⟩ := HR.out
                  obtain ⟨b1, b2, b3⟩ := HX.out
                  have hge := fun g hg => (hown.lt g hg).1
                  have hb6 := alloc_below (w := wr) (.cells #[.int .i64 x] 3)
                  obtain ⟨hb7, hg7⟩ := hgn.below (base := w2.heap.size) (Nat.le_trans hbw.size hb6.size) hge
                  refine ⟨i + 1, by go_num, by omega, ?_, (hbw.trans (hb6.mono hbw.size)).trans hb7, ?_, ?_⟩
                  · rw [htk]
                    simpa using row_raise hown' hg7
                  · rw [htk]
                    intro y hy
                    rcases List.mem_append.1 hy with h | h
                    · exact hbd y h
                    · simp at h
                      omega
                  · rw [htk]
                    exact List.nodup_append.2 ⟨hnd, by simp, fun a ha c hc e => by simp at hc; subst hc; subst e; exact b3 ha⟩
        · obtain rfl : i = n0 := by omega
          have hfull : l0.take i = l0 := List.take_of_length_le (by rw [HN.out.1]; exact Nat.le_refl _)
          rw [hfull] at hown hbd hnd
          have hd : decide ((i : Int) < (i : Int)) = false := by simp
          obtain ⟨hdv, hf, hge, hap, hbw2, hKD⟩ := HS.out
          have hf2 := hf.below hb2w
          have hdv2 := (hdv.goes hb2w).1
          have hro : ReadsO FF wr (.slice Af i cf) (l0.map (.int .i64)) := row_readsO hown (fun g hg hF => by have h1 := (hown.lt g hg).1; have h2 := hf.lt g hF; omega)
          have hroD : ∀ g, (Value.slice Af i cf).ownBlock = some g → g ∉ FD ∧ g ∉ FF := fun g hg => ⟨fun hF => by have h1 := (hown.lt g hg).1; have h2 := hdv.lt g hF; omega, fun hF => by have h1 := (hown.lt g hg).1; have h2 := hf.lt g hF; omega⟩
          have hbk := fback_any hf2 hro (by rw [HN.out.1]; simp; omega)
          have HW := Lib.hid (And.intro hown (And.intro hbw (And.intro hbd (And.intro hnd (And.intro hdv2 (And.intro hge (And.intro hap (And.intro hKD (And.intro hroD hf2.lt)))))))))
          clear hown hbw hb2w hbd hnd hdv hf hge hap hbw2 hKD hf2 hdv2 hro hroD hfull hlt hig HS
          go_wp2_with fail
          refine hbk.mono ?_
          rintro e w3 ⟨rfl, FF3, hf3, hg3⟩
          rw [List.append_nil] at hf3
          obtain ⟨hown, hbw, hbd, hnd, hdv2, hge, hap, hKD, hroD, hflt⟩ := HW.out
          have hdv3 := hdv2.kept hg3.1 hap
          have hap3 : ∀ x ∈ FD, x ∉ FF3 := fun x hx hx' => (hg3.2 x hx').elim (hap x hx) (fun h => by have := hdv2.lt x hx; omega)
          have hfg := HFG.out
          have hfg3 : ∀ x ∈ FF3, w.heap.size ≤ x := fun x hx => (hg3.2 x hx).elim (hfg x) (fun h => Nat.le_trans hbw.size h)
          have hbw3 : Below w.heap.size w w3 := hbw.trans (hg3.1.below hbw.size hfg)
          have hnw := gnew_ok (q : Int) 5 hdv3 hf3 hap3 (by omega) hKD.len (by omega) (by simpa [whats] using hbd) (by rw [HN.out.1]; simp; omega)
          have hrw3 := row_kept hown hg3.1 (fun g hg => (hroD g hg).2)
          have H3 := Lib.hid (And.intro hge (And.intro hfg3 (And.intro hbw3 (And.intro hKD (And.intro hrw3 (And.intro hbd (And.intro (fun g hg => (hroD g hg).1) (show ∀ g, (Value.slice Af i cf).ownBlock = some g → g ∉ FF3 from fun g hg hF => (hg3.2 g hF).elim (hroD g hg).2 (fun h => by have := (hown.lt g hg).2; omega)))))))))
          clear hbk hf3 hg3 hown hbw hbd hnd hdv2 hge hap hKD hroD hflt hdv3 hap3 hfg hfg3 hbw3 hrw3 HW
          go_wp2_with fail
          refine hnw.mono ?_
          rintro e w4 ⟨p, b, F4, rfl, hp4, hF4, hb4⟩
          obtain ⟨hge, hfg3, hbw3, hKD, hrw3, hbd, hnD, hnF⟩ := H3.out
          have hge4 : ∀ x ∈ F4, w.heap.size ≤ x := fun x hx => (hF4 x hx).elim (hge x) (fun h => h.elim (hfg3 x) (fun h => Nat.le_trans hbw3.size h))
          have hbw4 : Below w.heap.size w w4 := hbw3.trans (hb4.mono hbw3.size)
          have hro4 : ReadsO F4 w4 (.slice Af i cf) (l0.map (.int .i64)) := row_readsO (row_kept hrw3 (Kept.of_below (F := []) hb4) (by simp)) (fun g hg hF => (hF4 g hF).elim (hnD g hg) (fun h => h.elim (hnF g hg) (fun h => by have := (hrw3.lt g hg).2; omega)))
          have HS := Lib.hid (And.intro hp4 (And.intro hge4 (And.intro hbw4 (And.intro (KS.new hKD (by omega) hp4.devOK hbd (by rw [HN.out.1]; exact h30)) hro4))))
          have HL0 := Lib.hid hbd
          clear hnw hp4 hF4 hb4 hge hfg3 hbw3 hKD hrw3 hbd hnD hnF hge4 hbw4 hro4 H3
          go_wp2_with fail
          go_loopg [19] n1 (fun g iv wr => ∃ (n : Nat) (s : PgS) (F : List Nat), iv = .int .i64 n ∧ n + g = n1 ∧ PgIs p pd pf b s F wr ∧ (∀ x ∈ F, w.heap.size ≤ x) ∧ Below w.heap.size w wr ∧ KS q l0 j s n ∧ ReadsO F wr (.slice Af i cf) (l0.map (.int .i64)))
          case atStart =>
            obtain ⟨h1, h2, h3, h4, h5⟩ := HS.out
            exact ⟨0, _, F4, rfl, by omega, h1, h2, h3, h4, h5⟩
          case round =>
            clear HS
            obtain ⟨n, s, F, rfl, hig, hp, hge, hbw, hus, hro⟩ := hrel
            have hib : n ≤ 150 := by omega
            by_cases hlt : n < n1
            · have hd : decide ((n : Int) < (n1 : Int)) = true := by simp; omega
              have hil : n < os.length := by rw [HN.out.2]; exact hlt
              obtain ⟨b1, off, c', hv, hbb, k0, k1, k2, k3, k4⟩ := (R1.out.1.below hbw).at n hil
              simp only [Value.slice.injEq] at hv
              obtain ⟨rfl, _, rfl⟩ := hv
              have hoi := R1.out.2.1 _ (List.getElem_mem hil)
              have hti := R1.out.2.2 _ (List.getElem_mem hil)
              obtain ⟨o1, o2, o3, o4, o5⟩ := hoi
              generalize os[n].k = ok at *
              generalize os[n].n = on at *
              generalize os[n].pk = opk at *
              generalize os[n].pn = opn at *
              generalize os[n].t = ot at *
              have hj0 : (0 : Int) ≤ (n : Int) := by omega
              have hj1 : (n : Int) < (n1 : Int) := by omega
              have HR := Lib.hid (And.intro hge (And.intro hbw (And.intro hus hro)))
              by_cases a1 : ok = 1
              · subst a1
                have hmk := gmake_any opk opn ot hus.ok o3 o4 (by omega) hp
                have HK := Lib.hid (And.intro ((hbw.cell (p := ⟨b1, off + n * 5 + 2, none⟩) hbb).symm.trans k2) (And.intro ((hbw.cell (p := ⟨b1, off + n * 5 + 3, none⟩) hbb).symm.trans k3) (And.intro ((hbw.cell (p := ⟨b1, off + n * 5 + 4, none⟩) hbb).symm.trans k4) hbb)))
                clear hge hbw hus hro hp hil
                go_wp2_with fail
                refine hmk.mono ?_
                rintro e w5 ⟨id, r, s', rfl, hmt, F', hp', hg'⟩
                obtain ⟨hge, hbw, hus, hro⟩ := HR.out
                obtain ⟨hus', hmd⟩ := hus.make o3 o4 (by omega) hmt
                have hge' : ∀ x ∈ F', w.heap.size ≤ x := fun x hx => (hg'.2 x hx).elim (hge x) (fun h => Nat.le_trans hbw.size h)
                have hbw' : Below w.heap.size w w5 := hbw.trans (hg'.1.below hbw.size hge)
                have HM := Lib.hid (And.intro hp' (And.intro hge' (And.intro hbw' (And.intro hus' (hro.goes hg')))))
                clear hmk hmt hp' hg' k0 k1 k2 k3 k4 hge hbw hus hro hus' hge' hbw' HR
                by_cases a2 : r = 0
                · subst a2
                  obtain ⟨m1, m2, m3, m4⟩ := hmd rfl
                  obtain ⟨hp', hge', hbw', hus', hro'⟩ := HM.out
                  have hpb := hus'.ok.most
                  have hpc := hus'.ok.few
                  have hpd := hus'.ok.len
                  have hir : IsInt id := by unfold IsInt; omega
                  have hrd := gread_made id m3 m4 hir (by rw [m2]) (by rw [m2]; show ot.size ≤ _; omega) hp'
                  rw [m2] at hrd
                  have HB := Lib.hid (And.intro m1 (And.intro m2 hir))
                  clear hp' hge' hbw' hus' hro' hpb hpc hpd hmd m1 m2 m3 m4 hir
                  go_wp2_with fail
                  go_wp2_with fail
                  refine hrd.mono ?_
                  rintro e w6 ⟨rfl, hb6⟩
                  obtain ⟨hp', hge', hbw', hus', hro'⟩ := HM.out
                  obtain ⟨m1, m2, hir⟩ := HB.out
                  obtain ⟨x2, x3, x4, hbb⟩ := HK.out
                  have hbw6 : Below w.heap.size w w6 := hbw'.trans (hb6.mono hbw'.size)
                  have hbA := alloc_below (w := w6) (.cells #[.int .i64 opk, .int .i64 opn, .string ot] 23)
                  have hbwA := hbw6.trans (hbA.mono hbw6.size)
                  have y2 := (hbwA.cell (p := ⟨b1, off + n * 5 + 2, none⟩) hbb).trans x2
                  have y3 := (hbwA.cell (p := ⟨b1, off + n * 5 + 3, none⟩) hbb).trans x3
                  have y4 := (hbwA.cell (p := ⟨b1, off + n * 5 + 4, none⟩) hbb).trans x4
                  have hpA := (hp'.below hb6).below hbA
                  have hroA := (hro'.goes (goes_below hb6)).goes (goes_below hbA)
                  have hin := fun nq => (in_any id (hroA.goes ⟨(Kept.refl F' _).drewN nq, fun x hx => .inl hx⟩) (by rw [HN.out.1]; omega)).mono fun e w' ⟨he, hw⟩ => And.intro he hw.symm
                  have hon := fun nq => (gown_any id hir (hpA.kept ((Kept.refl [] _).drewN nq) (by simp))).mono fun e w' ⟨he, hw⟩ => And.intro he hw.symm
                  rw [m2, show decide ((⟨1, opk, opn, ot⟩ : Chg).fate = 1) = true from rfl] at hon
                  have hbx := Has.made w6 23 #[.int .i64 opk, .int .i64 opn, .string ot]
                  have z0 := hbx.cell 0
                  have z1 := hbx.cell 1
                  have z2 := hbx.cell 2
                  have HA := Lib.hid (And.intro hpA (And.intro hge' (And.intro hbwA (And.intro hus' hroA))))
                  clear hrd hb6 hp' hge' hbw' hus' hro' m2 hir x2 x3 x4 hbb hbw6 hbA hbwA hpA hroA HM HK hbx
                  by_cases c1 : id < (q : Int)
                  · have e2 : decide (id < (q : Int)) = true := by simpa using c1
                    rw [decide_eq_true (show id ∈ l0 from m1.elim (fun h => h) (fun h => by omega))] at hin
                    clear m1 HB
                    go_wp2_with fail
                    go_quiet (first | (go_at_call 25; exact Calls.quiet_of_same (hin _)) | (go_at_call 15; exact Calls.quiet_of_same (hon _)))
                    clear hin hon
                    go_wp2_with fail
                    go_roundg (n1 - (n + 1))
                    case measure => omega
                    case rel =>
                      obtain ⟨hp', hge', hbw', hus', hro'⟩ := HA.out
                      exact ⟨n + 1, s', F', by go_num, by omega, hp'.kept ((Kept.refl [] _).drewN nq) (by simp), hge', below_drewN hbw' nq, hus', hro'.goes ⟨(Kept.refl F' _).drewN nq, fun x hx => .inl hx⟩⟩
                  · have e2 : decide (id < (q : Int)) = false := by simpa using c1
                    clear m1 HB hin
                    go_wp2_with fail
                    go_quiet (first | (go_at_call 15; exact Calls.quiet_of_same (hon _)))
                    clear hon
                    go_wp2_with fail
                    go_roundg (n1 - (n + 1))
                    case measure => omega
                    case rel =>
                      obtain ⟨hp', hge', hbw', hus', hro'⟩ := HA.out
                      exact ⟨n + 1, s', F', by go_num, by omega, hp'.kept ((Kept.refl [] _).drewN nq) (by simp), hge', below_drewN hbw' nq, hus', hro'.goes ⟨(Kept.refl F' _).drewN nq, fun x hx => .inl hx⟩⟩
                · have e2 : (r != 0) = true := by simpa using a2
                  clear hmd a2
                  go_wp2_with fail
                  go_wp2_with fail
                  go_roundg (n1 - (n + 1))
                  case measure => omega
                  case rel =>
                    obtain ⟨hp', hge', hbw', hus', hro'⟩ := HM.out
                    exact ⟨n + 1, s', F', by go_num, by omega, hp', hge', hbw', hus', hro'⟩
              · by_cases a3 : ok = 3
                · subst a3
                  have hdp := gdrop_any on o2 hus.ok hp
                  clear hge hbw hus hro hp hil a1
                  go_wp2_with fail
                  refine hdp.mono ?_
                  rintro e w5 ⟨g, s', rfl, hmt, F', hp', hg'⟩
                  have HM := Lib.hid (And.intro hmt (And.intro hp' hg'))
                  clear hdp hmt hp' hg' k0 k1 k2 k3 k4
                  go_wp2_with fail
                  go_roundg (n1 - (n + 1))
                  case measure => omega
                  case rel =>
                    obtain ⟨hge, hbw, hus, hro⟩ := HR.out
                    obtain ⟨hmt, hp', hg'⟩ := HM.out
                    exact ⟨n + 1, s', F', by go_num, by omega, hp', fun x hx => (hg'.2 x hx).elim (hge x) (fun h => Nat.le_trans hbw.size h), hbw.trans (hg'.1.below hbw.size hge), hus.drop (by omega) hmt, hro.goes hg'⟩
                · have e1 : (ok == 1) = false := by simpa using a1
                  have e3 : (ok == 3) = false := by simpa using a3
                  have HP := Lib.hid hp
                  clear hge hbw hus hro hp hil a1 a3
                  go_wp2_with fail
                  go_roundg (n1 - (n + 1))
                  case measure => omega
                  case rel =>
                    obtain ⟨hge, hbw, hus, hro⟩ := HR.out
                    exact ⟨n + 1, s, F, by go_num, by omega, HP.out, hge, hbw, hus.step, hro⟩
            · obtain rfl : n = n1 := by omega
              have hd : decide ((n : Int) < (n : Int)) = false := by simp
              have hfw := hus.few
              have hfl := gflush_any (k0 := j) (sq0 := 0) (by omega) (by omega) hus.seq (by omega) (by rw [hus.wait]; simp) hus.dev.few (by omega) hus.madeOK hp
              have HR := Lib.hid (And.intro hge (And.intro hbw (And.intro hus hro)))
              clear hge hbw hus hro hp hlt hig hfw
              go_wp2_with fail
              refine hfl.mono ?_
              rintro e w5 ⟨rfl, F5, L, l5, sq5, m5, hfat, hLl, hp5, hg5⟩
              obtain ⟨hge, hbw, hus, hro⟩ := HR.out
              have hge5 : ∀ x ∈ F5, w.heap.size ≤ x := fun x hx => (hg5.2 x hx).elim (hge x) (fun h => Nat.le_trans hbw.size h)
              have hbw5 : Below w.heap.size w w5 := hbw.trans (hg5.1.below hbw.size hge)
              have hfw := hus.few
              have hKD := hus.wrote L hus.dev (by have := hus.ok.len; omega) (fun x hx => (hfat.2.2 x).1 hx)
              obtain ⟨FD5, hdv5, hsub5, -⟩ := hp5.devL
              have hdv5' : DevAt w5 pd (wroteL s.H s.dev L) FD5 := hdv5
              have hro5 := ReadsO.sub (hro.goes hg5) hsub5
              have hsy := sync_any pd _ FD5 w5 hdv5' (by have := hKD.few.line; omega)
              rw [(hKD.few.idle.sync).1, (hKD.few.idle.sync).2] at hsy
              have H5 := Lib.hid (And.intro (show ∀ x ∈ FD5, w.heap.size ≤ x from fun x hx => hge5 x (hsub5 x hx)) (And.intro hbw5 (And.intro (hKD.most) (And.intro hKD hro5))))
              clear hfl hfat hLl hp5 hg5 hge hbw hus hro hge5 hbw5 hKD hro5 hdv5 hdv5' hsub5 HR hfw
              go_wp2_with fail
              refine hsy.mono ?_
              rintro e w6 ⟨rfl, hdv6, hk6⟩
              have hKD6 := H5.out.2.2.2.1.sync hdv6.ok
              have hbw6 : Below w.heap.size w w6 := H5.out.2.1.trans (hk6.below H5.out.2.1.size H5.out.1)
              have H6 := Lib.hid (And.intro hdv6 (And.intro hbw6 (And.intro hKD6 (H5.out.2.2.2.2.goes ⟨hk6, fun x hx => .inl hx⟩))))
              clear hsy hdv6 hk6 hKD6 hbw6 H5
              go_wp2_with fail
              generalize syncedS (wroteL s.H s.dev L) = D at *
              go_loopg [24] j (fun g iv wr => ∃ (y : Nat), iv = .int .i64 (2 + y) ∧ y + g = j ∧ DevAt wr pd D FD5 ∧ Below w.heap.size w wr ∧ ReadsO FD5 wr (.slice Af i cf) (l0.map (.int .i64)))
              case atStart =>
                obtain ⟨h1, h2, -, h4⟩ := H6.out
                exact ⟨0, rfl, by omega, h1, h2, h4⟩
              case round =>
                have HK6 := Lib.hid H6.out.2.2.1
                clear H6
                obtain ⟨y, rfl, hig, hdv, hbw, hro⟩ := hrel
                have hyb : (y : Int) ≤ 28 := by omega
                have hqy : (y : Int) + 2 ≤ (q : Int) := by have := HM.out; omega
                have hal := alive7_any wr
                by_cases hlt : y < j
                · have hd : decide ((2 : Int) + (y : Int) < (q : Int)) = true := by have := HM.out; simp; omega
                  have hrd := read_any pd D FD5 (2 + y) wr hdv
                  have HR := Lib.hid (And.intro hdv (And.intro hbw hro))
                  by_cases c1 : (2 + y : Int) ∈ l0
                  · generalize readB D (2 + y) = B at *
                    generalize readE D (2 + y) = E at *
                    clear hdv hbw hro hal
                    go_wp2_with fail
                    refine hrd.mono ?_
                    rintro e w7 ⟨rfl, hb7⟩
                    have hop := refOpen_any (2 + y) B w7 (by unfold IsInt; omega)
                    unfold openV at hop
                    generalize openK (2 + y) B.data.toList = vk at *
                    generalize openN (2 + y) B.data.toList = vn at *
                    generalize openE (2 + y) B.data.toList = ve at *
                    generalize (⟨(openS (2 + y) B.data.toList).toArray⟩ : ByteArray) = vs at *
                    have H7 := Lib.hid hb7
                    clear hrd hb7
                    go_wp2_with fail
                    refine hop.mono ?_
                    rintro e w8 ⟨rfl, hb8⟩
                    obtain ⟨hdv, hbw, hro⟩ := HR.out
                    have hb78 := H7.out.trans (hb8.mono H7.out.size)
                    have hbA := alloc_below (w := w8) (.cells #[.int .i64 vk, .int .i64 vn, .string vs] 23)
                    have hb7A := hb78.trans (hbA.mono hb78.size)
                    have hroA := hro.goes (goes_below hb7A)
                    have hin := in_any (2 + y) hroA (by rw [HN.out.1]; omega)
                    rw [decide_eq_true c1] at hin
                    have hbx := Has.made w8 23 #[.int .i64 vk, .int .i64 vn, .string vs]
                    have z0 := hbx.cell 0
                    have z1 := hbx.cell 1
                    have z2 := hbx.cell 2
                    have HA := Lib.hid (And.intro ((hdv.goes hb7A).1) (And.intro (hbw.trans (hb7A.mono hbw.size)) hroA))
                    clear hop hb8 hdv hbw hro hb78 hbA hb7A hroA hbx HR H7
                    go_wp2_with fail
                    refine hin.mono ?_
                    rintro e w' ⟨rfl, rfl⟩
                    clear hin
                    go_wp2_with fail
                    go_roundg (j - (y + 1))
                    case measure => omega
                    case rel =>
                      obtain ⟨h1, h2, h3⟩ := HA.out
                      exact ⟨y + 1, by go_num, by omega, h1, h2, h3⟩
                  · have hKD := HK6.out
                    have hE : readE D (2 + y) = 0 ∧ readB D (2 + y) = oldB (2 + y) := by
                      have hon := hKD.few.idle.on
                      have hold := hKD.old (2 + y) (by omega) (by have := HM.out; omega) (by simpa using c1)
                      have hl := hKD.len
                      unfold readE readB
                      rw [if_pos hon, if_pos ⟨by omega, by have := HM.out; omega⟩, if_pos ⟨hon, by omega⟩, show (2 + y : Int).toNat = 2 + y by omega, hold]
                      exact ⟨rfl, rfl⟩
                    rw [hE.1, hE.2] at hrd
                    have hop' := old_open (2 + y) (by omega) (by omega)
                    generalize oldB (2 + y) = B at *
                    clear hdv hbw hro hal hKD hE
                    go_wp2_with fail
                    refine hrd.mono ?_
                    rintro e w7 ⟨rfl, hb7⟩
                    have hop := hop' w7
                    have H7 := Lib.hid hb7
                    clear hrd hb7 hop'
                    go_wp2_with fail
                    refine hop.mono ?_
                    rintro e w8 ⟨rfl, hb8⟩
                    obtain ⟨hdv, hbw, hro⟩ := HR.out
                    have hb78 := H7.out.trans (hb8.mono H7.out.size)
                    have hbA := alloc_below (w := w8) (.cells #[.int .i64 2, .int .i64 0, .string ⟨#[111, 108, 100]⟩] 23)
                    have hb7A := hb78.trans (hbA.mono hb78.size)
                    have hroA := hro.goes (goes_below hb7A)
                    have hin := in_any (2 + y) hroA (by rw [HN.out.1]; omega)
                    rw [decide_eq_false c1] at hin
                    have hbx := Has.made w8 23 #[.int .i64 2, .int .i64 0, .string ⟨#[111, 108, 100]⟩]
                    have z0 := hbx.cell 0
                    have z1 := hbx.cell 1
                    have z2 := hbx.cell 2
                    have HA := Lib.hid (And.intro ((hdv.goes hb7A).1) (And.intro (hbw.trans (hb7A.mono hbw.size)) hroA))
                    clear hop hb8 hdv hbw hro hb78 hbA hb7A hroA hbx HR H7
                    go_wp2_with fail
                    refine hin.mono ?_
                    rintro e w' ⟨rfl, rfl⟩
                    clear hin
                    go_wp2_with fail
                    go_roundg (j - (y + 1))
                    case measure => omega
                    case rel =>
                      obtain ⟨h1, h2, h3⟩ := HA.out
                      exact ⟨y + 1, by go_num, by omega, h1, h2, h3⟩
                · obtain rfl : y = j := by omega
                  have hd : decide ((2 : Int) + (y : Int) < (q : Int)) = false := by have := HM.out; simp; omega
                  have HR := Lib.hid hbw
                  clear hdv hbw hro
                  go_wp2_with fail
                  refine hal.mono ?_
                  rintro e w7 ⟨rfl, hb7⟩
                  go_wp2_with fail
                  go_ret
                  exact ⟨rfl, HR.out.trans (hb7.mono HR.out.size)⟩

theorem walk (w : World) (q : Int) (iq : IsInt q) (v0 : Value) (l0 : List Int) (r0 : Reads1 w w.heap.size v0 (l0.map (.int .i64))) (i0 : ∀ x ∈ l0, IsInt x) (m0 : l0.length ≤ 9223372036854775807)
    (v1 : Value) (os : List POp) (r1 : ReadsPOps w w.heap.size v1 os) (i1 : ∀ o ∈ os, o.ok) (m1 : os.length ≤ 9223372036854775807) :
    Calls Tryz.prog 4 #[.int .i64 q, v0, v1] w fun e w' => e = .returned (.bool true) ∧ Below w.heap.size w w' := by
  by_cases hl : os.length ≤ 150 ∧ ∀ o ∈ os, o.t.size ≤ 300
  · have hlg := light_yes r1 m1 i1 hl
    by_cases h2 : q < 2
    · exact walk_heavy w q v0 l0 r0 m0 v1 true hlg (.inr ⟨rfl, .inl h2⟩)
    · by_cases h30 : 30 < q
      · exact walk_heavy w q v0 l0 r0 m0 v1 true hlg (.inr ⟨rfl, .inr ⟨h2, .inl h30⟩⟩)
      · by_cases hn : 30 < l0.length
        · exact walk_heavy w q v0 l0 r0 m0 v1 true hlg (.inr ⟨rfl, .inr ⟨h2, .inr ⟨h30, hn⟩⟩⟩)
        · obtain ⟨n, rfl⟩ : ∃ n : Nat, q = n := ⟨q.toNat, by omega⟩
          exact walk_whole w n (by omega) (by omega) v0 l0 r0 (by omega) v1 os r1 i1 hl.1 hl.2 hlg
  · exact walk_heavy w q v0 l0 r0 m0 v1 false (light_no r1 m1 i1 hl) (.inl rfl)

set_option maxRecDepth 100000 in
theorem contract (H : Type) (enc : TypeId × Value → H) (W : World) (base : Nat) (args : Array Value) (ds gs : List (DataW H)) (before : List MemPlace)
    (hval : ∀ (j : Nat) t v, Tryz.f4.params[j]? = some t → args[j]? = some v → Value.okWide Tryz.prog W .any base t v)
    (hW : DataW.Whole enc Tryz.prog Tryz.f4.params.toList Rows.pagerKeepsSpec.vars false W args.toList ds gs before) (_hL : laidMetH Tryz.prog Rows.pagerKeepsRow.laid W) :
    Calls Tryz.prog 4 args W fun e W' => ∃ v, e = .returned v ∧ Rows.pagerKeepsSpec.post enc Tryz.prog Tryz.f4 false true false false W args v W' := by
  have hW' := hW
  obtain ⟨p, q, hA0, hV, rfl, hfz, hnd⟩ := hW
  have hA : DataW.TrodAll enc Tryz.prog W 0 (fun _ => true) true Tryz.f4.params.toList args.toList ds p := hA0
  rw [Tryz.params4] at hA hval
  obtain ⟨v0, vs0, d0, ds0, p0, q0, hargs, rfl, rfl, h0, r00⟩ := trodAll_cons hA
  obtain ⟨v1, vs1, d1, ds1, p1, q1, rfl, rfl, rfl, h1, r01⟩ := trodAll_cons r00
  obtain ⟨v2, vs2, d2, ds2, p2, q2, rfl, rfl, rfl, h2, r02⟩ := trodAll_cons r01
  obtain ⟨rfl, rfl, rfl⟩ := trodAll_nil r02
  obtain rfl : args = #[v0, v1, v2] := by cases args; simp_all
  obtain ⟨rfl, rfl⟩ := trodVars_none hV
  obtain ⟨n0, rfl, rfl, rfl, w0⟩ := open_int Tryz.underlying3 (hval 0 3 v0 rfl rfl) h0
  obtain ⟨l1, r1, i1, m1⟩ := reads_ints (hval 1 27 v1 rfl rfl) h1
  obtain ⟨os2, r2, i2, m2⟩ := reads_pops (hval 2 61 v2 rfl rfl) h2
  clear hA0
  refine (walk W n0 (isInt_of_wf w0) v1 l1 r1 i1 m1 v2 os2 r2 i2 m2).mono fun e W' ⟨he, hb⟩ => ?_
  subst he
  exact ⟨_, rfl, law_post hW' rfl rfl (by kernel_rfl) (by kernel_rfl) hb⟩

theorem reads (os : Os) {H : Type} (enc : TypeId × Value → H) : ∃ places, DataW.whole enc Tryz.prog ((laidWorld os).forCall (fun _ _ => 0) ⟨#[], #[.int .i64 0, .slice none 0 0, .slice none 0 0], []⟩).memory Tryz.f4.params.toList Rows.pagerKeepsSpec.vars false (#[.int .i64 0, .slice none 0 0, .slice none 0 0] : Array Value).toList 8 = some ([.lit (.int .i64 0), .nil, .nil], [], places) :=
  ⟨[], by kernel_rfl⟩

set_option maxRecDepth 100000 in
theorem lifted (os : Os) (started : os.Started) (H : Type) (enc : TypeId × Value → H) (F : Stop.Interp) :
    ReturnsInHanded {} Tryz.checked os 4 .any ((OpenSpec.ofChange Rows.pagerKeepsSpec).preRow enc Tryz.prog Tryz.f4 Rows.pagerKeepsRow.domain false Rows.pagerKeepsRow.laid) (((OpenSpec.ofChange Rows.pagerKeepsSpec).at F).post enc Tryz.prog Tryz.f4 false true false false) := by
  obtain ⟨places, hx⟩ := reads os enc
  refine returnsInHanded_of_row (C := Tryz.checked) (s := OpenSpec.ofChange Rows.pagerKeepsSpec) own started (by kernel_rfl) Tryz.func4
    (witness_row_at (enc := enc) (C := Tryz.checked) false (laidWorld os) #[.int .i64 0, .slice none 0 0, .slice none 0 0] (laid_os os) (by kernel_rfl) (by kernel_rfl) (by kernel_rfl)
      (OpenSpec.preRow_of_cond 8 hx (by kernel_rfl) (fun k hk => by cases hk) (by kernel_rfl) (laid_met os _))) ?_
  intro W base args ds gs before hval hW _ _ _ hL _ _
  exact contract H enc W base args ds gs before hval hW hL

set_option maxRecDepth 100000 in
theorem said : Rows.PagerKeepsSaid :=
  OpenClaim.holds_of_cond 4 Tryz.f4 rfl rfl rfl rfl rfl rfl rfl ⟨rfl, rfl, rfl, rfl, rfl⟩ rfl rfl rfl rfl rfl (by kernel_rfl) Tryz.func4 (by kernel_rfl)
    (of_decide_eq_true (by kernel_rfl)) (by unfold Func.isWrapper; first | (rw [if_pos (by decide +kernel)]; kernel_rfl) | (rw [if_neg (by decide +kernel)]; exact ⟨rfl, rfl⟩))
    (fun os started H enc _ F => by rw [OpenClaim.pre_eq_preRow]; exact lifted os started H enc F)

set_option maxRecDepth 100000 in
theorem plain (f : FuncId) (fn : Func) (hf : Tryz.pinned.checked.prog.funcNamed "arboretum/arboretumlaw7.PagerKeeps" = some f) (hfn : Tryz.pinned.checked.prog.funcs[f]? = some fn) :
    true = Tryz.pinned.checked.prog.looks [] ∧ ∀ (j : Nat) t, fn.params[j]? = some t → Tryz.pinned.checked.prog.wantsStandIn t = false := by
  obtain rfl : f = 4 := Option.some.inj ((show Tryz.prog.funcNamed "arboretum/arboretumlaw7.PagerKeeps" = some 4 by kernel_rfl).symm.trans hf) |>.symm
  obtain rfl : fn = Tryz.f4 := (Option.some.inj (Tryz.func4.symm.trans hfn)).symm
  refine ⟨by kernel_rfl, fun j t ht => ?_⟩
  rw [Tryz.params4] at ht
  have hm : t ∈ [3, 27, 61] := by simpa using Array.mem_of_getElem? ht
  have hall : ([3, 27, 61].all fun u => !Tryz.prog.wantsStandIn u) = true := by kernel_rfl
  exact (show Tryz.prog.wantsStandIn t = false by simpa using List.all_eq_true.1 hall t hm)

theorem card : Rows.PagerKeepsCardSaid :=
  Claim7.holds_tied_plain_at .later [] _ _ _ _ said (fun _ h => by cases h) (by kernel_rfl) (fun _ h => by cases h) pagerKeeps_row_tie rfl ⟨rfl, rfl⟩ (by kernel_rfl) rfl plain (by kernel_rfl)
end Go.Proofs.YtmcfldcpmjdfbaaGreatDoor.pagerKeeps
