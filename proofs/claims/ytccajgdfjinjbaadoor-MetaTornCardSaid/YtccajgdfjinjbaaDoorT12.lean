/-
  A meta, synced; a newer one that is written; the power fails: one of both is chosen, whole.
-/
import Derived.Test.YtccajgdfjinjbaaDoorT11
namespace Go.Proofs.YtccajgdfjinjbaaDoor
open Go.RowKit Go.Lib

theorem and_toNat (x : Int) (m : Nat) (hm : m < 256) : bits .and .i64 x (m : Int) = (((BitVec.ofInt 64 x).toNat &&& m : Nat) : Int) := by
  show IntKind.i64.wrap ((BitVec.ofInt 64 x &&& BitVec.ofInt 64 (m : Int)).toNat : Int) = _
  have e : (BitVec.ofInt 64 (m : Int)).toNat = m := by rw [BitVec.ofInt_natCast, BitVec.toNat_ofNat]; omega
  rw [BitVec.toNat_and, e, IntKind.wrap_i64]
  have : (BitVec.ofInt 64 x).toNat &&& m ≤ m := Nat.and_le_right
  omega
theorem and129 (x : Int) : bits .and .i64 x 129 = (((x % 256).toNat &&& 129 : Nat) : Int) := by
  have h1 := and_toNat x 129 (by omega)
  have h2 := and_toNat x 255 (by omega)
  rw [show ((255 : Nat) : Int) = 255 from rfl, i64_and255] at h2
  rw [show ((129 : Nat) : Int) = 129 from rfl] at h1
  rw [h1, show (x % 256).toNat = (BitVec.ofInt 64 x).toNat &&& 255 by omega, Nat.and_assoc]
  rfl
theorem mask129 : ∀ n : Nat, n < 256 → n &&& 129 = 129 → n % 2 = 1 ∧ n / 128 = 1 := by decide +kernel
theorem kept_both {x : Int} (h : bits .and .i64 x 129 = 129) : kept x 0 = true ∧ kept x 7 = true := by
  rw [and129] at h
  have := mask129 (x % 256).toNat (by omega) (by omega)
  unfold kept
  rw [decide_eq_true_iff, decide_eq_true_iff]
  show x / 1 % 2 = 1 ∧ x / 128 % 2 = 1
  omega
theorem kept_some {x : Int} (h : kept x 0 = true) : bits .and .i64 x 255 ≠ 0 := by
  rw [i64_and255]
  unfold kept at h
  rw [decide_eq_true_iff] at h
  have h : x / 1 % 2 = 1 := h
  omega

theorem mixB_of_full {old d : ByteArray} (h2 : d.size = 256) : mixB old d 255 = d := by
  unfold mixB
  rw [mixL_full (by rw [← h2]; rfl) (by decide)]
/-- A new one of which keep reached the device: whole, or none. -/
theorem torn_meta {t r f p keep : Int} (ht : MetaOK t r f p) (hp : p < 16777216) :
    ((mixB blank (mB t r f p) keep).data.toList = (mB t r f p).data.toList ∧ kept keep 0 = true) ∨ ((∀ g, ¬ GetOK g (mixB blank (mB t r f p) keep).data.toList) ∧ ¬ (kept keep 0 = true ∧ kept keep 7 = true)) := by
  have hp' : p.toNat < 16777216 := by have := ht.2.2.2.1; omega
  by_cases h0 : kept keep 0 = true
  · by_cases h7 : kept keep 7 = true
    · exact .inl ⟨by rw [mB_list]; exact torn_whole _ _ _ _ keep hp' h0 h7, h0⟩
    · rcases torn_tail t.toNat r.toNat f.toNat p.toNat keep hp' h0 h7 with h | h
      · exact .inl ⟨by rw [mB_list]; exact h, h0⟩
      · exact .inr ⟨h, fun x => h7 x.2⟩
  · exact .inr ⟨fun g => torn_head _ _ _ _ keep g h0, fun x => h0 x.1⟩

theorem chain {t r f p u r' f' p' keep : Int} (ok : MetaOK t r f p) (ok' : MetaOK u r' f' p') (hu : u = t + 1) (hp : p' < 16777216) (hk : IsInt keep) :
    ∃ s1 s2 s3 s4 s5 : DevS, ∃ Z : Value,
      (∀ B q w L W, DevRun B w q (longer (newS 2) 2) L W → Calls Tryd.prog 19 #[.pointer (some ⟨q, 0, none⟩), metaV t r f p] W fun e w' => e = .returned (.int .i64 0) ∧ DevRun B w q s1 L w') ∧
      (∀ B q w L W, DevRun B w q s1 L W → Calls Tryd.prog 22 #[.pointer (some ⟨q, 0, none⟩)] W fun e w' => e = .returned (.int .i64 0) ∧ DevRun B w q s2 L w') ∧
      (∀ B q w L W, DevRun B w q s2 L W → Calls Tryd.prog 19 #[.pointer (some ⟨q, 0, none⟩), metaV u r' f' p'] W fun e w' => e = .returned (.int .i64 0) ∧ DevRun B w q s3 L w') ∧
      (∀ B q w L W, DevRun B w q s3 L W → Calls Tryd.prog 23 #[.pointer (some ⟨q, 0, none⟩), .slice (some ⟨W.heap.size, 0, none⟩) 1 1] (W.alloc (.cells #[.int .i64 keep] 3)) fun e w' => e = .returned (.tuple #[]) ∧ DevRun B w q s4 L w') ∧
      (∀ B q w L W, DevRun B w q s4 L W → Calls Tryd.prog 24 #[.pointer (some ⟨q, 0, none⟩)] W fun e w' => e = .returned (.tuple #[]) ∧ DevRun B w q s5 L w') ∧
      (∀ B q w L W, DevRun B w q s5 L W → Calls Tryd.prog 20 #[.pointer (some ⟨q, 0, none⟩)] W fun e w' => e = .returned (.tuple #[Z, .int .i64 0]) ∧ DevRun B w q s5 L w') ∧
      (Z = metaV u r' f' p' ∧ kept keep 0 = true ∨ Z = metaV t r f p ∧ ¬ (kept keep 0 = true ∧ kept keep 7 = true)) := by
  obtain ⟨s1, t1, y1, l1, c1⟩ := Two.new.mwrite (by omega) t r f p ok
  have hy : s1.synced = [blank, blank] := y1
  have hl : s1.line = [(t % 2, mB t r f p)] := l1
  have eS : syncedS s1 = { settle1 s1 (t % 2) (mB t r f p) 255 with line := [] } := by unfold syncedS; rw [hl]; rfl
  have hsy := fun B q w L W hr => sync_run B q w s1 L W hr (t1.lineIn (by omega))
  rw [t1.idle.sync.1, t1.idle.sync.2, eS] at hsy
  have hm := torn_meta (keep := keep) ok' hp
  have hms := mB_size t r f p
  by_cases hg : t % 2 = 0
  · have hg' : u % 2 = 1 := by omega
    rw [if_pos hg, if_pos hg] at t1
    rw [hg] at hsy
    have t2 : Two { settle1 s1 0 (mB t r f p) 255 with line := [] } (mB t r f p) blank 1 := by
      refine ⟨⟨t1.idle.on, t1.idle.fuse⟩, ?_, Nat.zero_le _, t1.cap, t1.most⟩
      simp [settle1, t1.pages, mixB_of_full hms]
    have y2 : ({ settle1 s1 0 (mB t r f p) 255 with line := [] } : DevS).synced = [mB t r f p, blank] := by simp [settle1, hy, mixB_of_full hms]
    have l2 : ({ settle1 s1 0 (mB t r f p) 255 with line := [] } : DevS).line = [] := rfl
    generalize ({ settle1 s1 0 (mB t r f p) 255 with line := [] } : DevS) = s2 at *
    obtain ⟨s3, t3, y3, l3, c3⟩ := t2.mwrite (by omega) u r' f' p' ok'
    rw [if_neg (by omega), if_neg (by omega)] at t3
    rw [y2] at y3
    rw [l2, hg'] at l3
    have hcr := fun B q w L W hr => crash_run B q w s3 L W hr keep hk (t3.lineIn (by omega))
    have eC : crashS s3 [keep] = { settle1 { s3 with on := false, fuse := -1 } 1 (mB u r' f' p') keep with line := [] } := by unfold crashS; rw [l3]; rfl
    have hre := fun B q w L W hr => restore_run B q w (crashS s3 [keep]) L W hr (by rw [eC]; show 0 < s3.most; rw [t3.most]; decide)
    have t5 : Two { crashS s3 [keep] with on := true } (mB t r f p) (mixB blank (mB u r' f' p') keep) 2 := by
      rw [eC]
      refine ⟨⟨rfl, rfl⟩, ?_, Nat.zero_le _, t3.cap, t3.most⟩
      simp [settle1, t3.pages, y3]
    have hch := t5.mchoose
    rcases hm with ⟨h1, h2⟩ | ⟨h1, h2⟩
    · rw [h1] at hch
      obtain ⟨v, e⟩ := newest1 ok' hg' (x := (mB t r f p).data.toList) (.inr (by rw [(mB_get ok hg).2.2]; omega))
      rw [v, e] at hch
      exact ⟨s1, s2, s3, _, _, _, c1, hsy, c3, hcr, hre, hch, .inl ⟨rfl, h2⟩⟩
    · obtain ⟨v, e⟩ := newest0 ok hg (y := (mixB blank (mB u r' f' p') keep).data.toList) (.inl (h1 1))
      rw [v, e] at hch
      exact ⟨s1, s2, s3, _, _, _, c1, hsy, c3, hcr, hre, hch, .inr ⟨rfl, h2⟩⟩
  · have hg : t % 2 = 1 := by omega
    have hg' : u % 2 = 0 := by omega
    rw [if_neg (by omega), if_neg (by omega)] at t1
    rw [hg] at hsy
    have t2 : Two { settle1 s1 1 (mB t r f p) 255 with line := [] } blank (mB t r f p) 1 := by
      refine ⟨⟨t1.idle.on, t1.idle.fuse⟩, ?_, Nat.zero_le _, t1.cap, t1.most⟩
      simp [settle1, t1.pages, mixB_of_full hms]
    have y2 : ({ settle1 s1 1 (mB t r f p) 255 with line := [] } : DevS).synced = [blank, mB t r f p] := by simp [settle1, hy, mixB_of_full hms]
    have l2 : ({ settle1 s1 1 (mB t r f p) 255 with line := [] } : DevS).line = [] := rfl
    generalize ({ settle1 s1 1 (mB t r f p) 255 with line := [] } : DevS) = s2 at *
    obtain ⟨s3, t3, y3, l3, c3⟩ := t2.mwrite (by omega) u r' f' p' ok'
    rw [if_pos hg', if_pos hg'] at t3
    rw [y2] at y3
    rw [l2, hg'] at l3
    have hcr := fun B q w L W hr => crash_run B q w s3 L W hr keep hk (t3.lineIn (by omega))
    have eC : crashS s3 [keep] = { settle1 { s3 with on := false, fuse := -1 } 0 (mB u r' f' p') keep with line := [] } := by unfold crashS; rw [l3]; rfl
    have hre := fun B q w L W hr => restore_run B q w (crashS s3 [keep]) L W hr (by rw [eC]; show 0 < s3.most; rw [t3.most]; decide)
    have t5 : Two { crashS s3 [keep] with on := true } (mixB blank (mB u r' f' p') keep) (mB t r f p) 2 := by
      rw [eC]
      refine ⟨⟨rfl, rfl⟩, ?_, Nat.zero_le _, t3.cap, t3.most⟩
      simp [settle1, t3.pages, y3]
    have hch := t5.mchoose
    rcases hm with ⟨h1, h2⟩ | ⟨h1, h2⟩
    · rw [h1] at hch
      obtain ⟨v, e⟩ := newest0 ok' hg' (y := (mB t r f p).data.toList) (.inr (by rw [(mB_get ok hg).2.2]; omega))
      rw [v, e] at hch
      exact ⟨s1, s2, s3, _, _, _, c1, hsy, c3, hcr, hre, hch, .inl ⟨rfl, h2⟩⟩
    · obtain ⟨v, e⟩ := newest1 ok hg (x := (mixB blank (mB u r' f' p') keep).data.toList) (.inl (h1 0))
      rw [v, e] at hch
      exact ⟨s1, s2, s3, _, _, _, c1, hsy, c3, hcr, hre, hch, .inr ⟨rfl, h2⟩⟩
end Go.Proofs.YtccajgdfjinjbaaDoor
