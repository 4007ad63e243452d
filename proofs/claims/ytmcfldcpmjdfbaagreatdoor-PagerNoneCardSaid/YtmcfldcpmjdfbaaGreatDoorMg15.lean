/-
  Walks: Sync, Crash. A device's calls, each by one contract. What a pager knows of its pages: a map in memory, as a function of the number. A pager in memory: its own block, its map, its device and its free pages; each to be turned by itself. strings.Clone by its contract.
-/
import Derived.Test.YtmcfldcpmjdfbaaGreatDoorMg14
import Derived.Shelf.Abstract
import Derived.Test.YtmcfldcpmjdfbaaGreatDoorMg1
import Derived.Maps.OwnOps
import Derived.Maps.RangeWalk
import Derived.Maps.Views
import Derived.Test.YtmcfldcpmjdfbaaGreatDoorMg8
import Derived.Test.YtmcfldcpmjdfbaaGreatDoorShelf
namespace Go.Proofs.YtmcfldcpmjdfbaaGreatDoor
open Go.RowKit Go.Lib

set_option maxHeartbeats 400000 in
theorem sync1_any (n : Int) (w : World) : Calls Tryz.prog 58 #[.int .i64 n] w fun e w' => e = .returned (.int .i64 255) ∧ w = w' := by
  go_enter Tryz.func58, Tryz.ntmps58
  go_wp2
  go_ret
  exact ⟨rfl, rfl⟩

/-- v is a slice that reads as the values xs, in a block that is none of F's. -/
def Reads2 (w : World) (F : List Nat) (v : Value) (xs : List Value) : Prop :=
  ∃ (A : Option Addr) (c : Nat), v = .slice A xs.length c ∧ (0 < xs.length → ∃ b off, A = some ⟨b, off, none⟩ ∧ b < w.heap.size ∧ b ∉ F ∧ ∀ (j : Nat) (u : Value), xs[j]? = some u → w.cell? ⟨b, off + j, none⟩ = some u)
theorem Reads2.kept {w w' : World} {F G : List Nat} {v : Value} {xs : List Value} (h : Reads2 w F v xs) (hk : Kept G w w') (hG : ∀ k ∈ G, k ∈ F ∨ w.heap.size ≤ k) : Reads2 w' F v xs := by
  obtain ⟨A, c, rfl, h⟩ := h
  refine ⟨A, c, rfl, fun hn => ?_⟩
  obtain ⟨b, off, rfl, h1, h2, h3⟩ := h hn
  refine ⟨b, off, rfl, Nat.lt_of_lt_of_le h1 hk.size, h2, fun j u hu => (hk.cell (p := ⟨b, off + j, none⟩) h1 (fun hb => ?_)).trans (h3 j u hu)⟩
  rcases hG b hb with h4 | h4
  · exact h2 h4
  · omega
theorem Reads2.sub {w : World} {F G : List Nat} {v : Value} {xs : List Value} (h : Reads2 w F v xs) (hG : ∀ k ∈ G, k ∈ F ∨ w.heap.size ≤ k) : Reads2 w G v xs := by
  obtain ⟨A, c, rfl, h⟩ := h
  refine ⟨A, c, rfl, fun hn => ?_⟩
  obtain ⟨b, off, rfl, h1, h2, h3⟩ := h hn
  refine ⟨b, off, rfl, h1, fun hb => ?_, h3⟩
  rcases hG b hb with h4 | h4
  · exact h2 h4
  · omega
theorem Reads1.off {w : World} {B : Nat} {F : List Nat} {v : Value} {xs : List Value} (h : Reads1 w B v xs) (hB : B ≤ w.heap.size) (hF : ∀ k ∈ F, B ≤ k) : Reads2 w F v xs := by
  obtain ⟨A, c, rfl, h⟩ := h
  refine ⟨A, c, rfl, fun hn => ?_⟩
  obtain ⟨b, off, rfl, h1, h3⟩ := h hn
  exact ⟨b, off, rfl, by omega, fun hb => by have := hF b hb; omega, h3⟩
theorem Reads2.built (w : World) (t : TypeId) (cs : Array Value) (F : List Nat) (hF : ∀ k ∈ F, k < w.heap.size) : Reads2 (w.alloc (.cells cs t)) F (.slice (some ⟨w.heap.size, 0, none⟩) cs.size cs.size) cs.toList := by
  refine ⟨some ⟨w.heap.size, 0, none⟩, cs.size, by simp, fun _ => ⟨w.heap.size, 0, rfl, by simp, fun hb => by have := hF _ hb; omega, fun j u hu => ?_⟩⟩
  rw [Nat.zero_add, (Has.made w t cs).cell j]
  simpa using hu

/-- The keep of a place. -/
def keepOf (l : List Int) (i : Nat) : Int := l.getD i 0


/-- What Sync leaves, where there is power. -/
def syncedS (s : DevS) : DevS := settled (fun _ => 255) 0 s.line s
/-- What a crash leaves. -/
def crashS (s : DevS) (l : List Int) : DevS := settled (keepOf l) 0 s.line { s with on := false, fuse := -1 }

set_option maxHeartbeats 400000 in
theorem sync_nil (w : World) : Calls Tryz.prog 24 #[.pointer none] w fun e w' => e = .returned (.int .i64 14) ∧ w = w' := by
  go_enter Tryz.func24, Tryz.ntmps24
  go_wp2_with (go_at_call 54; refine (powered_nil _).mono ?_; rintro e w' ⟨rfl, rfl⟩)
  go_ret
  exact ⟨rfl, rfl⟩

set_option maxRecDepth 1000000 in
set_option maxHeartbeats 400000 in
theorem sync_off (p : Nat) (s : DevS) (F : List Nat) (w : World) (h : DevAt w p s F) (hoff : (powS s).on = false) :
    Calls Tryz.prog 24 #[.pointer (some ⟨p, 0, none⟩)] w fun e w' => e = .returned (.int .i64 14) ∧ DevAt w' p (powS s) F ∧ Kept F w w' := by
  have hp := powered_any p s F w h
  rw [hoff] at hp
  have hm := h.mem
  clear h hoff
  go_enter Tryz.func24, Tryz.ntmps24
  go_wp2_with fail
  refine hp.mono ?_
  rintro e w1 ⟨rfl, hd, hk⟩
  have HX := Lib.hid (And.intro hd hk)
  clear hd hk hp
  go_wp2
  go_ret
  exact ⟨rfl, HX.out.1, HX.out.2.mono (by simpa using .inl hm)⟩

set_option maxRecDepth 1000000 in
set_option maxHeartbeats 400000 in
theorem sync_on (p : Nat) (s : DevS) (F : List Nat) (w : World) (h : DevAt w p s F) (hon : (powS s).on = true) (hl : s.line.length ≤ 100000000000) :
    Calls Tryz.prog 24 #[.pointer (some ⟨p, 0, none⟩)] w fun e w' => e = .returned (.int .i64 0) ∧ DevAt w' p (syncedS (powS s)) F ∧ Kept F w w' := by
  have hp := powered_any p s F w h
  rw [hon] at hp
  have hm := h.mem
  have hl1 : (powS s).line.length ≤ 100000000000 := by
    have : (powS s).line = s.line := by unfold powS; split <;> first | rfl | (split <;> rfl)
    rw [this]
    exact hl
  generalize powS s = s1 at *
  clear h hon hl
  go_enter Tryz.func24, Tryz.ntmps24
  go_wp2_with fail
  refine hp.mono ?_
  rintro e w1 ⟨rfl, hd, hk⟩
  have hs := settle_any p s1 F 58 #[] (fun _ => 255) w1 hd hl1 (fun _ => by unfold IsInt; omega) (enters_of Tryz.func58 (by kernel_rfl) rfl) (fun i w' _ _ => sync1_any i w')
  have HX := Lib.hid (And.intro hd hk)
  clear hd hk hp hl1
  go_wp2_with fail
  refine hs.mono ?_
  rintro e w2 ⟨rfl, hd2, hk2⟩
  have HY := Lib.hid (And.intro hd2 hk2)
  clear hd2 hk2 hs
  go_wp2
  go_ret
  exact ⟨rfl, HY.out.1, (HX.out.2.mono (by simpa using .inl hm)).trans HY.out.2⟩


end Go.Proofs.YtmcfldcpmjdfbaaGreatDoor

namespace Go.Proofs.YtmcfldcpmjdfbaaGreatDoor
open Go.RowKit Go.Lib

def growAE (s : DevS) (n : Int) : Int := if (powS s).on = true then growE (powS s) n else 14
def growAS (s : DevS) (n : Int) : DevS := if (powS s).on = true then growS (powS s) n else powS s
theorem grow_any (p : Nat) (s : DevS) (F : List Nat) (n : Int) (w : World) (h : DevAt w p s F) :
    Calls Tryz.prog 47 #[.pointer (some ⟨p, 0, none⟩), .int .i64 n] w (DevTo p (growAS s n) (.int .i64 (growAE s n)) F w) := by
  unfold growAE growAS
  by_cases hon : (powS s).on = true
  · rw [if_pos hon, if_pos hon]
    exact grow_on p s F n w h hon
  · rw [if_neg hon, if_neg hon]
    exact grow_off p s F n w h (by simpa using hon)

def syncAE (s : DevS) : Int := if (powS s).on = true then 0 else 14
def syncAS (s : DevS) : DevS := if (powS s).on = true then syncedS (powS s) else powS s
theorem sync_any (p : Nat) (s : DevS) (F : List Nat) (w : World) (h : DevAt w p s F) (hl : s.line.length ≤ 100000000000) :
    Calls Tryz.prog 24 #[.pointer (some ⟨p, 0, none⟩)] w fun e w' => e = .returned (.int .i64 (syncAE s)) ∧ DevAt w' p (syncAS s) F ∧ Kept F w w' := by
  unfold syncAE syncAS
  by_cases hon : (powS s).on = true
  · rw [if_pos hon, if_pos hon]
    exact sync_on p s F w h hon hl
  · rw [if_neg hon, if_neg hon]
    exact sync_off p s F w h (by simpa using hon)

/-- A device that has power, and no fuse. -/
structure Idle (s : DevS) : Prop where
  on : s.on = true
  fuse : s.fuse = -1
theorem Idle.pow {s : DevS} (h : Idle s) : powS s = s := by unfold powS; rw [if_pos h.on, if_pos h.fuse]
theorem Idle.write {s : DevS} (h : Idle s) {n : Int} {d : ByteArray} (h0 : 0 ≤ n) (h1 : n < s.pages.length) (h2 : d.size = 256) : writeE s n d = 0 ∧ writeS s n d = wroteS s n d ∧ Idle (wroteS s n d) := by
  have hf : faultE s n d = 0 := by unfold faultE; rw [if_pos ⟨h0, h1⟩, if_pos h2]
  unfold writeE writeS
  rw [h.pow, if_pos h.on, if_pos h.on, if_pos h.on, if_pos hf]
  exact ⟨hf, rfl, h.on, h.fuse⟩
theorem Idle.sync {s : DevS} (h : Idle s) : syncAE s = 0 ∧ syncAS s = syncedS s := by
  unfold syncAE syncAS
  rw [h.pow, if_pos h.on, if_pos h.on]
  exact ⟨rfl, rfl⟩
theorem Idle.grow {s : DevS} (h : Idle s) (n : Int) : growAE s n = growE s n ∧ growAS s n = growS s n := by
  unfold growAE growAS
  rw [h.pow, if_pos h.on, if_pos h.on]
  exact ⟨rfl, rfl⟩
theorem newS_idle (n : Int) : Idle (newS n) := ⟨rfl, rfl⟩
theorem longer_idle {s : DevS} (h : Idle s) (k : Nat) : Idle (longer s k) := ⟨h.on, h.fuse⟩
/-- A crash, and power again: what of a device a settling does not touch. -/
theorem settled_flags (keep : Nat → Int) : ∀ (r : List (Int × ByteArray)) (i : Nat) (s : DevS), (settled keep i r s).on = s.on ∧ (settled keep i r s).fuse = s.fuse ∧ (settled keep i r s).most = s.most ∧ (settled keep i r s).line = [] ∧
    (settled keep i r s).pages.length = s.pages.length ∧ (settled keep i r s).synced.length = s.synced.length ∧ (settled keep i r s).cap = s.cap
  | [], _, _ => ⟨rfl, rfl, rfl, rfl, rfl, rfl, rfl⟩
  | (n, d) :: r, i, s => by
    obtain ⟨a, b, c, e, f, g, h⟩ := settled_flags keep r (i + 1) (settle1 s n d (keep i))
    unfold settled
    exact ⟨a, b, c, e, by rw [f]; simp [settle1], by rw [g]; simp [settle1], h⟩
theorem synced_idle {s : DevS} (h : Idle s) : Idle (syncedS s) := by
  obtain ⟨a, b, _⟩ := settled_flags (fun _ => 255) s.line 0 s
  exact ⟨a.trans h.on, b.trans h.fuse⟩

/-- The page of a byte b, as a text. -/
def filledB (b k : Nat) : ByteArray := ⟨(filled b k).toArray⟩
theorem filledB_size (b k : Nat) : (filledB b k).size = 256 := by
  show (filled b k).toArray.size = 256
  rw [List.size_toArray, filled_length]
end Go.Proofs.YtmcfldcpmjdfbaaGreatDoor

namespace Go.Proofs.YtmcfldcpmjdfbaaGreatDoor
open Go.RowKit Go.Maps

/-- What became of a page: its fate, and its content. -/
structure Chg where
  fate : Int
  kind : Int
  next : Int
  body : ByteArray

def noChg : Chg := ⟨0, 0, 0, ⟨#[]⟩⟩
def chgV (c : Chg) : Value := .agg #[.int .i64 c.fate, .int .i64 c.kind, .int .i64 c.next, .string c.body]
def chgD (c : Chg) : DataW Unit := .agg [.lit (.int .i64 c.fate), .lit (.int .i64 c.kind), .lit (.int .i64 c.next), .lit (.string c.body.data.toList)]
/-- How a change reads in a map. -/
def chgR (v : Value) : Option (DataW Unit × List MemPlace) :=
  match v with
  | .agg cs => match cs.toList with
    | [.int .i64 f, .int .i64 k, .int .i64 n, .string s] => some (chgD ⟨f, k, n, s⟩, [])
    | _ => none
  | _ => none
theorem chgR_mk (c : Chg) : chgR (chgV c) = some (chgD c, []) := rfl
theorem chgR_inv {v : Value} {y : DataW Unit × List MemPlace} (h : chgR v = some y) : ∃ c, v = chgV c ∧ y = (chgD c, []) := by
  unfold chgR at h
  split at h
  · rename_i cs
    split at h
    · rename_i f k n s he
      refine ⟨⟨f, k, n, s⟩, ?_, by simpa using h.symm⟩
      unfold chgV
      have : cs = #[.int .i64 f, .int .i64 k, .int .i64 n, .string s] := by
        apply Array.toList_inj.1
        rw [he]
      rw [this]
    · cases h
  · cases h
theorem chgD_inj {c d : Chg} (h : chgD c = chgD d) : c = d := by
  obtain ⟨f, k, n, s⟩ := c
  obtain ⟨f', k', n', s'⟩ := d
  simp [chgD] at h
  obtain ⟨rfl, rfl, rfl, hs⟩ := h
  have : s = s' := by
    cases s; cases s'
    simp at hs
    rw [hs]
  rw [this]

theorem intKey : Keyed Tryz.prog 3 := int_keyed Tryz.underlying3
theorem zeroChg (w : World) : (zeroValue 84).run Tryz.prog w = .ok (chgV noChg) w := by kernel_rfl
theorem chg_fate (f k n : Int) (s : ByteArray) (w : World) : (Instr.field 84 (.agg #[.int .i64 f, .int .i64 k, .int .i64 n, .string s]) 0).run Tryz.prog w = .ok (.int .i64 f) w := by kernel_rfl
theorem chg_page (f k n : Int) (s : ByteArray) (w : World) : (Instr.field 84 (.agg #[.int .i64 f, .int .i64 k, .int .i64 n, .string s]) 1).run Tryz.prog w = .ok (.agg #[.int .i64 k, .int .i64 n, .string s]) w := by kernel_rfl
theorem wf_of_isInt {x : Int} (h : IsInt x) : (Lit.int .i64 x).wf = true := by
  have h1 : IntKind.i64.min = -9223372036854775808 := by decide +kernel
  have h2 : IntKind.i64.max = 9223372036854775807 := by decide +kernel
  simp only [Lit.wf, Bool.and_eq_true, decide_eq_true_eq, h1, h2]
  exact h
theorem isInt_of_wf' {n : Int} (h : (Lit.int .i64 n).wf = true) : IsInt n := by
  have h1 : IntKind.i64.min = -9223372036854775808 := by decide +kernel
  have h2 : IntKind.i64.max = 9223372036854775807 := by decide +kernel
  simp only [Lit.wf, Bool.and_eq_true, decide_eq_true_eq, h1, h2] at h
  exact h
theorem keyInt {x : Int} (h : IsInt x) : keyOf Tryz.prog 3 (.int .i64 x) = some (.int .i64 x) := keyOf_int_mk Tryz.underlying3 (wf_of_isInt h)
theorem lit_ne {x y : Int} (h : x ≠ y) : (Lit.int .i64 x) ≠ .int .i64 y := fun e => h (by cases e; rfl)

/-- At block b of w stands a map of at most n changes: H is what it knows of each number. -/
def HereIs (w : World) (b n : Nat) (H : Int → Chg) : Prop :=
  ∃ D : DataW Unit, w.ownsMap Tryz.prog 3 chgR b n D ∧ ∀ x : Int, D.atKey (.int .i64 x) (chgD noChg) = chgD (H x)

def upd (H : Int → Chg) (x : Int) (c : Chg) : Int → Chg := fun y => if y = x then c else H y
theorem upd_same (H : Int → Chg) (x : Int) (c : Chg) : upd H x c x = c := if_pos rfl
theorem upd_other (H : Int → Chg) {x y : Int} (c : Chg) (h : y ≠ x) : upd H x c y = H y := if_neg h

section
variable {w w' : World} {b n : Nat} {H : Int → Chg} {G : List Nat}
theorem HereIs.made (w : World) : HereIs (w.alloc (.map #[] 0)) w.heap.size 0 (fun _ => noChg) := ⟨.map [], World.ownsMap_made _ _ _ _, fun _ => rfl⟩
theorem HereIs.lt (h : HereIs w b n H) : b < w.heap.size := by
  obtain ⟨D, ho, _⟩ := h
  exact ho.lt
theorem HereIs.kept (h : HereIs w b n H) (hk : Kept G w w') (hn : b ∉ G) : HereIs w' b n H := by
  obtain ⟨D, ⟨es, clock, hb, rest⟩, hv⟩ := h
  exact ⟨D, ⟨es, clock, chan_kept hb hk hn, rest⟩, hv⟩
theorem HereIs.mono (h : HereIs w b n H) {n' : Nat} (hn : n ≤ n') : HereIs w b n' H := by
  obtain ⟨D, ho, hv⟩ := h
  exact ⟨D, ho.mono hn, hv⟩
theorem HereIs.look (h : HereIs w b n H) {x : Int} (hx : IsInt x) : (Instr.lookup 43 (.map (some b)) (.int .i64 x) false).run Tryz.prog w = .ok (chgV (H x)) w := by
  obtain ⟨D, ho, hv⟩ := h
  obtain ⟨v, ps, hrun, hR⟩ := ho.lookup intKey Tryz.underlying43 (zeroChg w) (chgR_mk noChg) (keyInt hx)
  rw [hv x] at hR
  obtain ⟨c, rfl, hc⟩ := chgR_inv hR
  simp at hc
  rw [chgD_inj hc.1]
  exact hrun
theorem HereIs.put (h : HereIs w b n H) (hn : n < 1000000) {x : Int} (hx : IsInt x) (c : Chg) :
    ∃ w', (Instr.mapUpdate 43 (.map (some b)) (.int .i64 x) (chgV c)).run Tryz.prog w = .ok () w' ∧ HereIs w' b (n + 1) (upd H x c) ∧ Kept [b] w w' := by
  obtain ⟨D, ho, hv⟩ := h
  obtain ⟨w', hrun, ho', hg⟩ := ho.update intKey Tryz.underlying43 (by unfold maxLen; omega) (keyInt hx) (chgR_mk c)
  obtain ⟨es, hD, _⟩ := ho.entries intKey
  refine ⟨w', hrun, ⟨_, ho', fun y => ?_⟩, Kept.of_grown hg (fun k e => by cases e; simp)⟩
  by_cases e : y = x
  · subst e
    rw [atKey_put_same ⟨es, hD⟩ (show WideAt.IsKeyLit (Lit.int .i64 y) from trivial), upd_same]
  · rw [atKey_put_other (lit_ne e), hv y, upd_other H c e]
/-- 'clear'. -/
theorem HereIs.cleared (h : HereIs w b n H) (ty : TypeId) : ∃ w', (Builtin.clear_ #[43] ty #[.map (some b)]).run Tryz.prog w = .ok (.tuple #[]) w' ∧ HereIs w' b 0 (fun _ => noChg) ∧ Kept [b] w w' := by
  obtain ⟨D, ⟨es, clock, hb, F, _, _⟩, _⟩ := h
  refine ⟨ChangeMaps.setBlock w b (.map #[] clock), ?_, ⟨.map [], ⟨#[], clock, ChangeMaps.heap_setBlock_same hb _, ⟨by simp, MapKept.stamped_empty clock, by simp⟩, Nat.le_refl _, rfl⟩, fun _ => rfl⟩,
    ⟨rfl, rfl, rfl, by simp [ChangeMaps.setBlock], fun i _ hi => ChangeMaps.heap_setBlock_other hb _ (fun e => hi (by rw [e]; simp))⟩⟩
  simp [Builtin.clear_, run_underlying Tryz.underlying43, MapKept.run_getObj_map hb, MapKept.run_setObj_map _ hb, Result.andThen, ChangeMaps.setBlock]

end

section
variable {P : Program} (w : World) {ops : Array Oper} {rest : List Oper} {o : Oper} {a : Act} {Q : Exit → Act → World → Prop} {b n : Nat} {H : Int → Chg}
/-- 'here[id]', for the walk. -/
theorem wpList_look (hg : o.guard = none) (m x : Operand) (hop : o.op = Op.lookup 43 m x false) (hm : a.eval m = .map (some b)) (h : HereIs w b n H) (k : Int) (hx : a.eval x = .int .i64 k) (hk : IsInt k)
    (hK : wpList Tryz.prog ops Q rest (a.put o.dst (chgV (H k))) w) : wpList Tryz.prog ops Q (o :: rest) a w := by
  refine wpList_plain hg fun K' hK' => ?_
  have hrun := h.look hk
  unfold Oper.wp
  simp [execOp, hop, hm, hx, hrun, Result.andThen]
  exact hK' _ _ hK
/-- 'here[id] = c', for the walk. -/
theorem wpList_put (hg : o.guard = none) (m x v : Operand) (hop : o.op = Op.mapUpdate 43 m x v) (hm : a.eval m = .map (some b)) (h : HereIs w b n H) (hn : n < 1000000) (k : Int) (hx : a.eval x = .int .i64 k) (hk : IsInt k) (c : Chg) (hv : a.eval v = chgV c)
    (hK : ∀ w', HereIs w' b (n + 1) (upd H k c) → Kept [b] w w' → wpList Tryz.prog ops Q rest (a.put o.dst undef) w') : wpList Tryz.prog ops Q (o :: rest) a w := by
  refine wpList_plain hg fun K' hK' => ?_
  obtain ⟨w', hrun, r1, r2⟩ := h.put hn hk c
  unfold Oper.wp
  simp [execOp, hop, hm, hx, hv, hrun, Result.andThen]
  exact hK' _ _ (hK w' r1 r2)
/-- 'clear(here)', for the walk. -/
theorem wpList_clear (hg : o.guard = none) (m : Operand) (hop : o.op = Op.call { callee := Callee.builtin Builtin.clear, args := #[m], argTypes := #[43] }) (hm : a.eval m = .map (some b)) (h : HereIs w b n H)
    (hK : ∀ w', HereIs w' b 0 (fun _ => noChg) → Kept [b] w w' → wpList Tryz.prog ops Q rest (a.put o.dst (.tuple #[])) w') : wpList Tryz.prog ops Q (o :: rest) a w := by
  refine wpList_plain hg fun K' hK' => ?_
  obtain ⟨w', hrun, r1, r2⟩ := h.cleared o.type
  unfold Oper.wp
  simp [execOp, hop, resolve, invoke, builtin, hm, hrun, Result.andThen]
  exact hK' _ _ (hK w' r1 r2)
end
end Go.Proofs.YtmcfldcpmjdfbaaGreatDoor

namespace Go.Proofs.YtmcfldcpmjdfbaaGreatDoor
open Go.RowKit Go.Sort

structure PgS where
  dev : DevS
  l : List Int
  sq : Int
  m : List Due
  k : List Int
  spare : List Int
  there : Int
  pages : Int
  txn : Int
  n : Nat
  H : Int → Chg

def pgCells (pd pf b : Nat) (v : Value) (there pages txn : Int) : Array Value :=
  #[.pointer (some ⟨pd, 0, none⟩), .pointer (some ⟨pf, 0, none⟩), v, .int .i64 0, .slice none 0 0, .slice none 0 0, .int .i64 there, .int .i64 pages, .int .i64 txn, .map (some b)]
def spareSpot (pd pf b : Nat) (there pages txn : Int) : Spot 2 := ⟨45, fun v => pgCells pd pf b v there pages txn, fun _ => rfl, fun _ _ => rfl⟩

/-- The blocks that a pager has to itself. -/
def pgOwn (p b : Nat) (v : Value) : List Nat := p :: b :: v.ownBlock.toList

/-- At p stands a pager over the device at pd and the free pages at pf, its map at b; all these blocks are F. -/
def PgIs (p pd pf b : Nat) (s : PgS) (F : List Nat) (w : World) : Prop :=
  ∃ v FD FF, Has w p 45 (pgCells pd pf b v s.there s.pages s.txn) ∧ NRow w p v s.spare ∧ HereIs w b s.n s.H ∧ DevAt w pd s.dev FD ∧ FreeIs pf w FF s.l s.sq s.m s.k ∧
    b ≠ p ∧ v.ownBlock ≠ some b ∧ (∀ x ∈ pgOwn p b v, x ∉ FD ∧ x ∉ FF) ∧ (∀ x ∈ FD, x ∉ FF) ∧ F = pgOwn p b v ++ (FD ++ FF)

section
variable {p pd pf b : Nat} {s : PgS} {F G : List Nat} {w w' : World}
theorem own_lt {v : Value} (hp : Has w p 45 (pgCells pd pf b v s.there s.pages s.txn)) (hn : NRow w p v s.spare) (hh : HereIs w b s.n s.H) : ∀ x ∈ pgOwn p b v, x < w.heap.size := by
  intro x hx
  simp only [pgOwn, List.mem_cons, Option.mem_toList] at hx
  rcases hx with rfl | rfl | hx
  · exact hp.inside
  · exact hh.lt
  · exact hn.lt x hx
theorem PgIs.lt (h : PgIs p pd pf b s F w) : ∀ x ∈ F, x < w.heap.size := by
  obtain ⟨v, FD, FF, hp, hn, hh, hd, hf, _, _, _, _, rfl⟩ := h
  intro x hx
  rcases List.mem_append.1 hx with hx | hx
  · exact own_lt hp hn hh x hx
  · rcases List.mem_append.1 hx with hx | hx
    · exact hd.lt x hx
    · exact hf.lt x hx
theorem PgIs.mem (h : PgIs p pd pf b s F w) : p ∈ F := by
  obtain ⟨v, FD, FF, _, _, _, _, _, _, _, _, _, rfl⟩ := h
  simp [pgOwn]
theorem PgIs.kept (h : PgIs p pd pf b s F w) (hk : Kept G w w') (hd : ∀ x ∈ F, x ∉ G) : PgIs p pd pf b s F w' := by
  obtain ⟨v, FD, FF, hp, hn, hh, hdv, hf, h1, h2, h3, h4, rfl⟩ := h
  simp only [pgOwn, List.mem_append, List.mem_cons, Option.mem_toList] at hd
  exact ⟨v, FD, FF, hp.kept hk (hd p (by simp)), hn.kept hk (fun g hg => hd g (by simp [hg])), hh.kept hk (hd b (by simp)), hdv.kept hk (fun x hx => hd x (by simp [hx])), hf.kept hk (fun x hx => hd x (by simp [hx])), h1, h2, h3, h4, rfl⟩
theorem PgIs.below (h : PgIs p pd pf b s F w) (hb : Below w.heap.size w w') : PgIs p pd pf b s F w' := h.kept (G := []) (Kept.of_below hb) (by simp)
theorem PgIs.perm (h : PgIs p pd pf b s F w) {l k spare : List Int} {m : List Due} (hl : s.l.Perm l) (hm : s.m.Perm m) (hk : s.k.Perm k) (hs : s.spare.Perm spare) : PgIs p pd pf b { s with l := l, m := m, k := k, spare := spare } F w := by
  obtain ⟨v, FD, FF, hp, hn, hh, hdv, hf, h1, h2, h3, h4, rfl⟩ := h
  exact ⟨v, FD, FF, hp, hn.perm hs, hh, hdv, hf.perm hl hm hk, h1, h2, h3, h4, rfl⟩

/-- The device by itself. -/
theorem PgIs.devL (h : PgIs p pd pf b s F w) : ∃ FD, DevAt w pd s.dev FD ∧ (∀ x ∈ FD, x ∈ F) ∧ ∀ d' FD' w', DevAt w' pd d' FD' → Goes FD w FD' w' → ∃ F', PgIs p pd pf b { s with dev := d' } F' w' ∧ Goes F w F' w' := by
  obtain ⟨v, FD, FF, hp, hn, hh, hdv, hf, h1, h2, h3, h4, rfl⟩ := h
  refine ⟨FD, hdv, fun x hx => by simp [hx], fun d' FD' w' hd' hg => ?_⟩
  have holt := own_lt hp hn hh
  have hflt := hf.lt
  have hno : ∀ x ∈ pgOwn p b v, x ∉ FD := fun x hx => (h3 x hx).1
  have hnew : ∀ x ∈ FD', x ∈ FD ∨ w.heap.size ≤ x := hg.2
  refine ⟨_, ⟨v, FD', FF, hp.kept hg.1 (hno p (by simp [pgOwn])), hn.kept hg.1 (fun g hgg => hno g (by simp [pgOwn, hgg])), hh.kept hg.1 (hno b (by simp [pgOwn])), hd', hf.kept hg.1 (fun x hx hd => h4 x hd hx), h1, h2, fun x hx => ⟨fun hx' => ?_, (h3 x hx).2⟩, fun x hx hx' => ?_, rfl⟩,
    hg.1.mono (fun x hx => .inl (by simp [hx])), fun x hx => ?_⟩
  · rcases hnew x hx' with h | h
    · exact hno x hx h
    · have := holt x hx; omega
  · rcases hnew x hx with h | h
    · exact h4 x h hx'
    · have := hflt x hx'; omega
  · rcases List.mem_append.1 hx with hx | hx
    · exact .inl (by simp [hx])
    · rcases List.mem_append.1 hx with hx | hx
      · exact (hnew x hx).imp (fun h => by simp [h]) id
      · exact .inl (by simp [hx])

/-- The free pages by themselves. -/
theorem PgIs.freeL (h : PgIs p pd pf b s F w) : ∃ FF, FreeIs pf w FF s.l s.sq s.m s.k ∧ (∀ x ∈ FF, x ∈ F) ∧ ∀ l' sq' m' k' FF' w', FreeIs pf w' FF' l' sq' m' k' → Goes FF w FF' w' →
    ∃ F', PgIs p pd pf b { s with l := l', sq := sq', m := m', k := k' } F' w' ∧ Goes F w F' w' := by
  obtain ⟨v, FD, FF, hp, hn, hh, hdv, hf, h1, h2, h3, h4, rfl⟩ := h
  refine ⟨FF, hf, fun x hx => by simp [hx], fun l' sq' m' k' FF' w' hf' hg => ?_⟩
  have holt := own_lt hp hn hh
  have hdlt := hdv.lt
  have hno : ∀ x ∈ pgOwn p b v, x ∉ FF := fun x hx => (h3 x hx).2
  have hnew : ∀ x ∈ FF', x ∈ FF ∨ w.heap.size ≤ x := hg.2
  refine ⟨_, ⟨v, FD, FF', hp.kept hg.1 (hno p (by simp [pgOwn])), hn.kept hg.1 (fun g hgg => hno g (by simp [pgOwn, hgg])), hh.kept hg.1 (hno b (by simp [pgOwn])), hdv.kept hg.1 h4, hf', h1, h2, fun x hx => ⟨(h3 x hx).1, fun hx' => ?_⟩, fun x hx hx' => ?_, rfl⟩,
    hg.1.mono (fun x hx => .inl (by simp [hx])), fun x hx => ?_⟩
  · rcases hnew x hx' with h | h
    · exact hno x hx h
    · have := holt x hx; omega
  · rcases hnew x hx' with h | h
    · exact h4 x hx h
    · have := hdlt x hx; omega
  · rcases List.mem_append.1 hx with hx | hx
    · exact .inl (by simp [hx])
    · rcases List.mem_append.1 hx with hx | hx
      · exact .inl (by simp [hx])
      · exact (hnew x hx).imp (fun h => by simp [h]) id

/-- What a pager has to itself, by itself. -/
theorem PgIs.ownL (h : PgIs p pd pf b s F w) : ∃ v, Has w p 45 (pgCells pd pf b v s.there s.pages s.txn) ∧ NRow w p v s.spare ∧ HereIs w b s.n s.H ∧ b ≠ p ∧ v.ownBlock ≠ some b ∧ (∀ x ∈ pgOwn p b v, x ∈ F) ∧
    ∀ v' there' pages' spare' n' H' w', Has w' p 45 (pgCells pd pf b v' there' pages' s.txn) → NRow w' p v' spare' → HereIs w' b n' H' → Goes (pgOwn p b v) w (pgOwn p b v') w' → v'.ownBlock ≠ some b →
      ∃ F', PgIs p pd pf b { s with there := there', pages := pages', spare := spare', n := n', H := H' } F' w' ∧ Goes F w F' w' := by
  obtain ⟨v, FD, FF, hp, hn, hh, hdv, hf, h1, h2, h3, h4, rfl⟩ := h
  refine ⟨v, hp, hn, hh, h1, h2, fun x hx => by simp [hx], fun v' there' pages' spare' n' H' w' hp' hn' hh' hg hv' => ?_⟩
  have hdlt := hdv.lt
  have hflt := hf.lt
  have hnew : ∀ x ∈ pgOwn p b v', x ∈ pgOwn p b v ∨ w.heap.size ≤ x := hg.2
  refine ⟨_, ⟨v', FD, FF, hp', hn', hh', hdv.kept hg.1 (fun x hx hx' => (h3 x hx').1 hx), hf.kept hg.1 (fun x hx hx' => (h3 x hx').2 hx), h1, hv', fun x hx => ⟨fun hx' => ?_, fun hx' => ?_⟩, h4, rfl⟩,
    hg.1.mono (fun x hx => .inl (by simp [hx])), fun x hx => ?_⟩
  · rcases hnew x hx with h | h
    · exact (h3 x h).1 hx'
    · have := hdlt x hx'; omega
  · rcases hnew x hx with h | h
    · exact (h3 x h).2 hx'
    · have := hflt x hx'; omega
  · rcases List.mem_append.1 hx with hx | hx
    · exact (hnew x hx).imp (fun h => by simp [h]) id
    · exact .inl (by simp [hx])

/-- Its cells. -/
theorem PgIs.cells (h : PgIs p pd pf b s F w) : ∃ v, Has w p 45 (pgCells pd pf b v s.there s.pages s.txn) := by
  obtain ⟨v, FD, FF, hp, _⟩ := h
  exact ⟨v, hp⟩
theorem PgIs.here (h : PgIs p pd pf b s F w) : HereIs w b s.n s.H := by
  obtain ⟨v, FD, FF, _, _, hh, _⟩ := h
  exact hh
theorem PgIs.devOK (h : PgIs p pd pf b s F w) : DevOK s.dev := by
  obtain ⟨v, FD, FF, _, _, _, hd, _⟩ := h
  exact hd.ok

/-- The map alone turns. -/
theorem PgIs.setHere (h : PgIs p pd pf b s F w) {n' : Nat} {H' : Int → Chg} (hh : HereIs w' b n' H') (hk : Kept [b] w w') : PgIs p pd pf b { s with n := n', H := H' } F w' ∧ Kept F w w' := by
  obtain ⟨v, FD, FF, hp, hn, hh0, hdv, hf, h1, h2, h3, h4, rfl⟩ := h
  have hb := h3 b (by simp [pgOwn])
  refine ⟨⟨v, FD, FF, hp.kept hk (by simpa using fun e => h1 e.symm), hn.kept hk (fun g hg => by simp; exact fun e => h2 (by rw [hg, e])), hh, hdv.kept hk (fun x hx e => hb.1 (by simp at e; exact e ▸ hx)), hf.kept hk (fun x hx e => hb.2 (by simp at e; exact e ▸ hx)), h1, h2, h3, h4, rfl⟩, hk.mono (fun x hx => .inl ?_)⟩
  simp at hx
  subst hx
  simp [pgOwn]

/-- The spare ones by themselves. -/
theorem PgIs.spareL (h : PgIs p pd pf b s F w) : ∃ F0, PileIs p (spareSpot pd pf b s.there s.pages s.txn) w F0 s.spare ∧ (∀ x ∈ F0, x ∈ F) ∧ ∀ w' F0' l', PileIs p (spareSpot pd pf b s.there s.pages s.txn) w' F0' l' → Goes F0 w F0' w' →
    ∃ F', PgIs p pd pf b { s with spare := l' } F' w' ∧ Goes F w F' w' := by
  obtain ⟨v, hp, hn, hh, h1, h2, hsub, hback⟩ := h.ownL
  refine ⟨p :: v.ownBlock.toList, pile_of (S := spareSpot pd pf b s.there s.pages s.txn) hp hn, fun x hx => hsub x (by simp [pgOwn] at hx ⊢; rcases hx with h | h <;> simp [h]), fun w' F0' l' hpi hg => ?_⟩
  obtain ⟨u, hpu, hu, rfl⟩ := of_pile hpi
  have hhb : b ∉ p :: v.ownBlock.toList := by simp; exact ⟨h1, fun e => h2 e⟩
  have hub : u.ownBlock ≠ some b := fun e => by
    rcases hg.2 b (by simp [e]) with h | h
    · exact hhb h
    · have := hh.lt; omega
  refine hback u s.there s.pages l' s.n s.H w' hpu hu (hh.kept hg.1 hhb) ⟨hg.1.mono (fun x hx => .inl (by simp [pgOwn] at hx ⊢; rcases hx with h | h <;> simp [h])), fun x hx => ?_⟩ hub
  simp only [pgOwn, List.mem_cons, Option.mem_toList] at hx ⊢
  rcases hx with rfl | rfl | hx
  · exact .inl (.inl rfl)
  · exact .inl (.inr (.inl rfl))
  · rcases hg.2 x (by simp [hx]) with h | h
    · simp at h
      rcases h with rfl | h
      · exact .inl (.inl rfl)
      · exact .inl (.inr (.inr h))
    · exact .inr h
end
end Go.Proofs.YtmcfldcpmjdfbaaGreatDoor

namespace Go.Proofs.YtmcfldcpmjdfbaaGreatDoor
open Go.RowKit Go.Lib

set_option maxHeartbeats 400000 in
theorem tclone_any (s : ByteArray) (hs : s.size ≤ 281474976710656) (w : World) : Calls Tryz.prog 38 #[.string s] w fun e w' => e = .returned (.string s) ∧ Below w.heap.size w w' := by
  go_enter Tryz.func38, Tryz.ntmps38
  go_wp2_with (go_at_call 69; refine (Tryz.stringslite_Clone s _ hs).mono ?_; rintro e w' ⟨rfl, hb⟩)
  go_ret
  exact ⟨rfl, hb⟩

end Go.Proofs.YtmcfldcpmjdfbaaGreatDoor
