/-
  The program's device and the document's, side by side: what each call leaves of both.
-/
import Derived.Test.YthcpjpebahiikaaDoorMg36
import Derived.Test.YthcpjpebahiikaaDoorMg37
namespace Go.Proofs.YthcpjpebahiikaaDoor
open Go.RowKit Go.Lib

/-- Both say the same of two pages. -/
structure Sim (s : DevS) (Ls : List ByteArray) (Ws : List (Int × ByteArray)) : Prop where
  idle : Idle s
  len : s.pages.length = Ls.length
  at_ : ∀ i (h : i < Ls.length), s.pages[i]? = some (nowW Ls[i] i Ws)
  cap : s.cap ≤ 1000 ∧ s.line.length ≤ Ws.length
  few : Ls.length ≤ 2
theorem Sim.readE {s : DevS} {Ls : List ByteArray} {Ws : List (Int × ByteArray)} (h : Sim s Ls Ws) (i : Nat) : readE s i = rdE Ls i := by
  unfold Go.Proofs.YthcpjpebahiikaaDoor.readE rdE
  rw [if_pos h.idle.on]
  by_cases c : i < Ls.length
  · rw [if_pos (by have := h.len; omega), if_pos c]
  · rw [if_neg (by have := h.len; omega), if_neg c]
theorem Sim.readB {s : DevS} {Ls : List ByteArray} {Ws : List (Int × ByteArray)} (h : Sim s Ls Ws) (i : Nat) : readB s i = rdB Ls Ws i := by
  unfold Go.Proofs.YthcpjpebahiikaaDoor.readB rdB
  rw [if_pos ⟨h.idle.on, by omega⟩, Int.toNat_natCast]
  by_cases c : i < Ls.length
  · rw [dif_pos c, h.at_ i c]
    rfl
  · rw [dif_neg c, List.getElem?_eq_none (by have := h.len; omega)]
    rfl
theorem Sim.choose {s : DevS} {Ls : List ByteArray} {Ws : List (Int × ByteArray)} (h : Sim s Ls Ws) :
    chooseV s = choV (rdE Ls 0) (rdE Ls 1) (rdB Ls Ws 0).data.toList (rdB Ls Ws 1).data.toList ∧ chooseE s = choE (rdE Ls 0) (rdE Ls 1) (rdB Ls Ws 0).data.toList (rdB Ls Ws 1).data.toList := by
  have e0 := h.readE 0
  have e1 := h.readE 1
  have b0 := h.readB 0
  have b1 := h.readB 1
  unfold chooseV chooseE
  have z0 : ((0 : Nat) : Int) = 0 := rfl
  have z1 : ((1 : Nat) : Int) = 1 := rfl
  rw [z0] at e0 b0
  rw [z1] at e1 b1
  rw [e0, e1, b0, b1]
  exact ⟨rfl, rfl⟩
theorem Sim.new {k : Nat} (hk : k ≤ 2) : Sim (longer (newS 2) k) (List.replicate k blank) [] where
  idle := longer_idle (newS_idle 2) k
  len := by simp [longer, newS]
  at_ := fun i h => by
    simp at h
    simp only [longer, newS, nowW, List.nil_append]
    rw [List.getElem?_replicate, if_pos h]
    simp
  cap := by simp [longer, newS]
  few := by simpa using hk
theorem Sim.write {s : DevS} {Ls : List ByteArray} {Ws : List (Int × ByteArray)} (h : Sim s Ls Ws) (hw : Ws.length ≤ 3) (i : Nat) (d : ByteArray) (hd : d.size = 256) :
    writeE s i d = (if i < Ls.length then 0 else 3) ∧ Sim (writeS s i d) Ls (wrTo Ls Ws i d) := by
  by_cases c : i < Ls.length
  · obtain ⟨w1, w2, w3⟩ := h.idle.write (n := (i : Int)) (d := d) (by omega) (by have := h.len; omega) hd
    rw [w1, w2, if_pos c]
    have e1 : wrTo Ls Ws i d = Ws ++ [((i : Int), d)] := by unfold wrTo; rw [if_pos c]
    rw [e1]
    refine ⟨rfl, w3, ?_, fun j hj => ?_, ⟨?_, ?_⟩, h.few⟩
    · show (s.pages.set _ d).length = _
      rw [List.length_set]
      exact h.len
    · show (s.pages.set ((i : Int).toNat) d)[j]? = _
      rw [Int.toNat_natCast, nowW_snoc]
      by_cases e : i = j
      · subst e
        rw [if_pos rfl, List.getElem?_set_self (by have := h.len; omega)]
      · rw [if_neg (by simp; omega), List.getElem?_set_ne e]
        exact h.at_ j hj
    · show roomed s.line s.cap ≤ 1000
      have h1 := h.cap.1
      have h2 := h.cap.2
      unfold roomed
      split <;> omega
    · show (s.line ++ [((i : Int), d)]).length ≤ (Ws ++ [((i : Int), d)]).length
      have := h.cap.2
      simp
      omega
  · have hf : faultE s (i : Int) d = 3 := by unfold faultE; rw [if_neg (by have := h.len; omega)]
    have hp := h.idle.pow
    have e1 : wrTo Ls Ws i d = Ws := by unfold wrTo; rw [if_neg c]
    refine ⟨?_, ?_⟩
    · unfold writeE
      rw [if_pos h.idle.on, hp, if_pos h.idle.on, hf, if_neg c]
    · have e2 : writeS s (i : Int) d = s := by unfold writeS; rw [if_pos h.idle.on, hp, hf, if_neg (by decide)]
      rw [e1, e2]
      exact h

theorem grown5 (k : Nat) (h : k ≤ 2) : growAE (newS 2) k = 0 ∧ growAS (newS 2) k = longer (newS 2) k := by
  have e : growE (newS 2) k = 0 := by
    unfold growE
    rw [if_neg (by simp [newS]), if_neg (by simp [newS]; omega)]
  rw [((newS_idle 2).grow _).1, ((newS_idle 2).grow _).2]
  refine ⟨e, ?_⟩
  unfold growS
  rw [if_pos e]
  congr 1
theorem wrTo_len (Ls : List ByteArray) (Ws : List (Int × ByteArray)) (i : Nat) (d : ByteArray) : (wrTo Ls Ws i d).length ≤ Ws.length + 1 := by unfold wrTo; split <;> simp
/-- In world W stand both, in blocks from B on; nothing that was there below B in w has turned. -/
def Both (B : Nat) (w : World) (p : Nat) (s : DevS) (q : Nat) (Ls : List ByteArray) (Ws : List (Int × ByteArray)) (W : World) : Prop :=
  ∃ F lv wv, DevAt W p s F ∧ (∀ k ∈ F, B ≤ k) ∧ RD B W q lv wv Ls Ws ∧ (B ≤ q ∧ q ∉ F) ∧ (∀ g, lv.ownBlock = some g → g ∉ F) ∧ (∀ g, wv.ownBlock = some g → g ∉ F) ∧ Below B w W ∧ B ≤ W.heap.size ∧ (Ls = [] → lv = .slice none 0 0) ∧ (Ws = [] → wv = .slice none 0 0)
section
variable {B p q : Nat} {w W W' : World} {s : DevS} {Ls : List ByteArray} {Ws : List (Int × ByteArray)}
theorem Both.below (h : Both B w p s q Ls Ws W) (hb : Below W.heap.size W W') : Both B w p s q Ls Ws W' := by
  obtain ⟨F, lv, wv, h1, h2, h3, h4, h5, h6, h7, h8, h9, h10⟩ := h
  exact ⟨F, lv, wv, (h1.goes hb).1, h2, h3.below hb, h4, h5, h6, h7.trans (hb.mono h8), Nat.le_trans h8 hb.size, h9, h10⟩
theorem Both.out (h : Both B w p s q Ls Ws W) : Below B w W := by
  obtain ⟨F, lv, wv, h1, h2, h3, h4, h5, h6, h7, _⟩ := h
  exact h7
theorem rd_lv_ne {base : Nat} {lv wv : Value} (h : RD base W q lv wv Ls Ws) : ∀ g, lv.ownBlock = some g → g ≠ q := fun g hg e => by
  subst e
  rcases h.pages.2 with ⟨rfl, _⟩ | ⟨g', cap, cur, rfl, _, hgc, _⟩
  · simp [Value.ownBlock] at hg
  · simp [Value.ownBlock] at hg
    subst hg
    have h3 : W.heap[g']? = _ := h.has
    rw [hgc] at h3
    simp at h3
/-- A call of the program's device. -/
theorem Both.dev (h : Both B w p s q Ls Ws W) : ∃ F, DevAt W p s F ∧ ∀ s' W', (∃ F', DevAt W' p s' F' ∧ Goes F W F' W') → Both B w p s' q Ls Ws W' := by
  obtain ⟨F, lv, wv, h1, h2, h3, h4, h5, h6, h7, h8, h9, h10⟩ := h
  refine ⟨F, h1, fun s' W' ⟨F', k1, k2⟩ => ?_⟩
  have hold : ∀ x, x < W.heap.size → x ∉ F → x ∉ F' := fun x hx hn hF => by
    rcases k2.2 x hF with h | h
    · exact hn h
    · omega
  refine ⟨F', lv, wv, k1, fun k hk => (k2.2 k hk).elim (h2 k) (fun h => Nat.le_trans h8 h), h3.kept k2.1 h4.2 h5 h6, ⟨h4.1, hold q h3.has.inside h4.2⟩, fun g hg => hold g (World.ownsRow.lt h3.pages g hg).2 (h5 g hg), fun g hg => hold g (World.ownsRow.lt h3.writes g hg).2 (h6 g hg), h7.trans (k2.1.below h8 h2), Nat.le_trans h8 k2.1.size, h9, h10⟩

theorem both_grow_d (h : Both B w p s q Ls Ws W) (n : Int) : Calls Tryd.prog 13 #[.pointer (some ⟨p, 0, none⟩), .int .i64 n] W fun e w' => e = .returned (.int .i64 (growAE s n)) ∧ Both B w p (growAS s n) q Ls Ws w' := by
  obtain ⟨F, hd, hback⟩ := h.dev
  exact (grow_any p s F n W hd).mono fun e w' he => ⟨he.1, hback _ _ he.2⟩
theorem both_write_d (h : Both B w p s q Ls Ws W) (n : Int) (d : ByteArray) (hcap : s.cap ≤ 1000) : Calls Tryd.prog 15 #[.pointer (some ⟨p, 0, none⟩), .int .i64 n, .string d] W fun e w' => e = .returned (.int .i64 (writeE s n d)) ∧ Both B w p (writeS s n d) q Ls Ws w' := by
  obtain ⟨F, hd, hback⟩ := h.dev
  exact (write_any p s F n d W hd (by omega)).mono fun e w' he => ⟨he.1, hback _ _ he.2⟩
theorem both_mwrite_d (h : Both B w p s q Ls Ws W) (hcap : s.cap ≤ 1000) (t r f x : Int) (ht : IsInt t) (hr : IsInt r) (hf : IsInt f) (hx : IsInt x) (hok : MetaOK t r f x) :
    Calls Tryd.prog 17 #[.pointer (some ⟨p, 0, none⟩), metaV t r f x] W fun e w' => e = .returned (.int .i64 (writeE s (t % 2) (mB t r f x))) ∧ Both B w p (writeS s (t % 2) (mB t r f x)) q Ls Ws w' := by
  refine (mwrite_ok _ t r f x (writeE s (t % 2) (mB t r f x)) W (fun _ w' => Both B w p (writeS s (t % 2) (mB t r f x)) q Ls Ws w') ht hr hf hx hok (fun w1 hb => both_write_d (h.below hb) _ _ hcap)).mono ?_
  rintro e w' ⟨rfl, _, _, hq⟩
  exact ⟨rfl, hq⟩
theorem both_choose_d (h : Both B w p s q Ls Ws W) : Calls Tryd.prog 18 #[.pointer (some ⟨p, 0, none⟩)] W fun e w' => e = .returned (.tuple #[chooseV s, .int .i64 (chooseE s)]) ∧ Both B w p s q Ls Ws w' ∧ Below W.heap.size W w' := by
  obtain ⟨F, hd, hback⟩ := h.dev
  exact (choose_any p s F W hd).mono fun e w' he => ⟨he.1, h.below he.2, he.2⟩

/-- A call of the document's device. -/
theorem Both.ref (h : Both B w p s q Ls Ws W) : ∃ lv wv, RD B W q lv wv Ls Ws ∧ (Ls = [] → lv = .slice none 0 0) ∧ (Ws = [] → wv = .slice none 0 0) ∧ B ≤ W.heap.size ∧ (∀ lv' wv' Ls' Ws' W', RD B W' q lv' wv' Ls' Ws' → (lv' = lv ∨ ∀ g, lv'.ownBlock = some g → W.heap.size ≤ g) → (wv' = wv ∨ ∀ g, wv'.ownBlock = some g → W.heap.size ≤ g) → Kept [q] W W' →
    (Ls' = [] → lv' = .slice none 0 0) → (Ws' = [] → wv' = .slice none 0 0) → Both B w p s q Ls' Ws' W') := by
  obtain ⟨F, lv, wv, h1, h2, h3, h4, h5, h6, h7, h8, h9, h10⟩ := h
  refine ⟨lv, wv, h3, h9, h10, h8, fun lv' wv' Ls' Ws' W' k1 k2 k3 k4 k5 k6 => ?_⟩
  have hlt := h1.lt
  have hnew : ∀ g, W.heap.size ≤ g → g ∉ F := fun g hg hF => by have := hlt g hF; omega
  refine ⟨F, lv', wv', h1.kept k4 (fun x hx hG => by simp at hG; subst hG; exact h4.2 hx), h2, k1, h4, fun g hg => ?_, fun g hg => ?_, h7.trans (k4.below h8 (by simpa using h4.1)), Nat.le_trans h8 k4.size, k5, k6⟩
  · rcases k2 with rfl | k2
    · exact h5 g hg
    · exact hnew g (k2 g hg)
  · rcases k3 with rfl | k3
    · exact h6 g hg
    · exact hnew g (k3 g hg)
theorem both_grow_r (h : Both B w p s q [] [] W) (k : Nat) (hk : k ≤ 2) (hk1 : 1 ≤ k) : Calls Tryd.prog 14 #[.pointer (some ⟨q, 0, none⟩), .int .i64 k] W fun e w' => e = .returned (.int .i64 0) ∧ Both B w p s q (List.replicate k blank) [] w' := by
  obtain ⟨lv, wv, h1, h2, h3, h4, hback⟩ := h.ref
  obtain rfl := h2 rfl
  obtain rfl := h3 rfl
  refine (rgrow5 h1 h4 k hk).mono fun e w' he => ⟨he.1, ?_⟩
  obtain ⟨lv', k1, k2, k3⟩ := he.2
  exact hback lv' _ _ _ w' k1 (.inr k2) (.inl rfl) k3 (fun e => by simp at e; omega) (fun _ => rfl)
theorem both_write_r (h : Both B w p s q Ls Ws W) (hw : Ws.length ≤ 1) (i : Nat) (hi : i ≤ 1) (d : ByteArray) (hd : d.size = 256) : Calls Tryd.prog 16 #[.pointer (some ⟨q, 0, none⟩), .int .i64 i, .string d] W fun e w' => e = .returned (.int .i64 (if i < Ls.length then 0 else 3)) ∧ Both B w p s q Ls (wrTo Ls Ws i d) w' := by
  by_cases c : i < Ls.length
  · rw [if_pos c]
    have e1 : wrTo Ls Ws i d = Ws ++ [((i : Int), d)] := by unfold wrTo; rw [if_pos c]
    rw [e1]
    obtain ⟨lv, wv, h1, h2, h3, h4, hback⟩ := h.ref
    match Ws, hw, h1, h3, hback with
    | [], _, h1, h3, hback =>
      obtain rfl := h3 rfl
      refine (rwrite_first h1 h4 (rd_lv_ne h1) i d c hd).mono fun e w' he => ⟨he.1, ?_⟩
      obtain ⟨wv', k1, k2, k3⟩ := he.2
      exact hback lv wv' _ _ w' k1 (.inl rfl) (.inr k2) k3 h2 (fun e => by simp at e)
    | [x], _, h1, h3, hback =>
      refine (rwrite_second h1 h4 (rd_lv_ne h1) i d c hd).mono fun e w' he => ⟨he.1, ?_⟩
      obtain ⟨wv', k1, k2, k3⟩ := he.2
      exact hback lv wv' _ _ w' k1 (.inl rfl) (.inr k2) k3 h2 (fun e => by simp at e)
  · rw [if_neg c]
    have e1 : wrTo Ls Ws i d = Ws := by unfold wrTo; rw [if_neg c]
    rw [e1]
    obtain ⟨lv, wv, h1, h2, h3, h4, hback⟩ := h.ref
    exact (rwrite_no h1 i d (by omega) hi).mono fun e w' he => ⟨he.1, he.2 ▸ h⟩
theorem both_choose_r (h : Both B w p s q Ls Ws W) (h1 : 1 ≤ Ls.length) : Calls Tryd.prog 19 #[.pointer (some ⟨q, 0, none⟩)] W fun e w' => e = .returned (.tuple #[choV (rdE Ls 0) (rdE Ls 1) (rdB Ls Ws 0).data.toList (rdB Ls Ws 1).data.toList, .int .i64 (choE (rdE Ls 0) (rdE Ls 1) (rdB Ls Ws 0).data.toList (rdB Ls Ws 1).data.toList)]) ∧ Both B w p s q Ls Ws w' ∧ Below W.heap.size W w' := by
  obtain ⟨lv, wv, k1, k2, k3, k4, hback⟩ := h.ref
  exact (rchooseOf5 k1 h1).mono fun e w' he => ⟨he.1, h.below he.2, he.2⟩
theorem both_new {F : List Nat} (h1 : DevAt W p s F) (h2 : ∀ k ∈ F, B ≤ k) (hb : Below B w W) (hB : B ≤ W.heap.size) : Both B w p s W.heap.size [] [] (W.alloc (.cells (rdV (.slice none 0 0) (.slice none 0 0)) 65)) := by
  have hba : Below W.heap.size W (W.alloc (.cells (rdV (.slice none 0 0) (.slice none 0 0)) 65)) := (Below.refl _ _).alloc (Nat.le_refl _) _
  exact ⟨F, _, _, (h1.goes hba).1, h2, rd_new B W, ⟨hB, fun hF => by have := h1.lt _ hF; omega⟩, by simp [Value.ownBlock], by simp [Value.ownBlock], hb.trans (hba.mono hB), by simp; omega, fun _ => rfl, fun _ => rfl⟩
theorem mwrite_none (w : World) : Calls Tryd.prog 17 #[.pointer none, .agg #[.int .i64 0, .int .i64 0, .int .i64 0, .int .i64 0]] w fun e w' => e = .returned (.int .i64 14) ∧ Below w.heap.size w w' := by
  have i0 : IsInt 0 := by unfold IsInt; omega
  have h := mwrite_ok (.pointer none) 0 0 0 0 14 w (fun w1 w' => w1 = w') i0 i0 i0 i0 (by unfold MetaOK Fits6; omega) (fun w1 _ => write_nil _ _ w1)
  unfold metaV at h
  refine h.mono ?_
  rintro e w' ⟨rfl, w1, hb, rfl⟩
  exact ⟨rfl, hb⟩
end
end Go.Proofs.YthcpjpebahiikaaDoor
