/-
  Free pages, the document's own, and a book that keeps lists, side by side; each call turns one of them. Keeping lists in the book, beside free pages and the document's own; the book at its end.
-/
import Derived.Test.YtjimjemogbphaaaGreatMg23
import Derived.Test.YtjimjemogbphaaaGreatMg29
import Derived.Test.YtjimjemogbphaaaGreatMg18
namespace Go.Proofs.YtjimjemogbphaaaGreat
open Go.RowKit Go.Sort

abbrev bfoot (pb : Nat) (hv hc : Value) (KL : List KeptI) : List Nat := bookFoot pb hv hc KL nilV nilV []

/-- All three, in blocks that are made since base; the blocks of S are none of theirs. -/
structure Play (base : Nat) (w : World) (S : List Nat) (p : Nat) (F : List Nat) (l : List Int) (sq : Nat) (m : List Due) (k : List Int) (pr : Nat) (vL vW vP : Value) (L : List Int) (W : List (Int × Int)) (P : List Int) (pb : Nat) (hv hc : Value) (KL : List KeptI) : Prop where
  f : FreeIs p w F l (sq : Int) m k
  r : RFr w pr vL vW vP L W P
  b : BookAt w pb hv hc KL nilV nilV []
  bf : ∀ x ∈ F, base ≤ x
  br : ∀ x ∈ rffoot pr vL vW vP, base ≤ x
  bb : ∀ x ∈ bfoot pb hv hc KL, base ≤ x
  fr : ∀ x ∈ F, x ∉ rffoot pr vL vW vP
  fb : ∀ x ∈ F, x ∉ bfoot pb hv hc KL
  rb : ∀ x ∈ rffoot pr vL vW vP, x ∉ bfoot pb hv hc KL
  s : ∀ x ∈ S, x < w.heap.size ∧ x ∉ F ∧ x ∉ rffoot pr vL vW vP ∧ x ∉ bfoot pb hv hc KL
  sz : base ≤ w.heap.size

/-- The same, whatever the slices are. -/
def PlayS (base : Nat) (w : World) (S : List Nat) (p : Nat) (l : List Int) (sq : Nat) (m : List Due) (k : List Int) (pr : Nat) (L : List Int) (W : List (Int × Int)) (P : List Int) (pb : Nat) (KL : List KeptI) : Prop :=
  ∃ F vL vW vP hv hc, Play base w S p F l sq m k pr vL vW vP L W P pb hv hc KL

/-- What a call leaves: nothing below base has turned, nor anything of S. -/
structure PLeft (base : Nat) (S : List Nat) (w w' : World) : Prop where
  below : Below base w w'
  size : w.heap.size ≤ w'.heap.size
  keep : ∀ x ∈ S, w'.heap[x]? = w.heap[x]?

section
variable {base p pr pb sq : Nat} {w w' : World} {S : List Nat} {l k L P : List Int} {m : List Due} {W : List (Int × Int)} {KL : List KeptI}

theorem PLeft.refl (base : Nat) (S : List Nat) (w : World) : PLeft base S w w := ⟨Below.refl _ _, Nat.le_refl _, fun _ _ => rfl⟩
theorem PLeft.trans {w2 : World} (h : PLeft base S w w') (k : PLeft base S w' w2) : PLeft base S w w2 :=
  ⟨h.below.trans k.below, Nat.le_trans h.size k.size, fun x hx => (k.keep x hx).trans (h.keep x hx)⟩
theorem PLeft.has {g : Nat} {t : TypeId} {cs : Array Value} (h : PLeft base S w w') (hg : Has w g t cs) (hS : g ∈ S) : Has w' g t cs := (h.keep g hS).trans hg
theorem pleft_of {G : List Nat} (hk : Kept G w w') (hb : base ≤ w.heap.size) (hG : ∀ x ∈ G, base ≤ x) (hS : ∀ x ∈ S, x < w.heap.size ∧ x ∉ G) : PLeft base S w w' :=
  ⟨hk.below hb hG, hk.size, fun x hx => hk.block x (hS x hx).1 (hS x hx).2⟩

/-- Only new blocks come. -/
theorem PlayS.below (h : PlayS base w S p l sq m k pr L W P pb KL) (hb : Below w.heap.size w w') : PlayS base w' S p l sq m k pr L W P pb KL ∧ PLeft base S w w' := by
  obtain ⟨F, vL, vW, vP, hv, hc, h⟩ := h
  exact ⟨⟨F, vL, vW, vP, hv, hc, ⟨h.f.below hb, h.r.below hb, h.b.below hb, h.bf, h.br, h.bb, h.fr, h.fb, h.rb, fun x hx => ⟨Nat.lt_of_lt_of_le (h.s x hx).1 hb.size, (h.s x hx).2⟩, Nat.le_trans h.sz hb.size⟩⟩,
    ⟨hb.mono h.sz, hb.size, fun x hx => hb.block x (h.s x hx).1⟩⟩
/-- One more that is none of theirs. -/
theorem PlayS.more (h : PlayS base w S p l sq m k pr L W P pb KL) (o : Obj) : PlayS base (w.alloc o) (w.heap.size :: S) p l sq m k pr L W P pb KL := by
  have hb : Below w.heap.size w (w.alloc o) := (Below.refl _ _).alloc (Nat.le_refl _) _
  obtain ⟨F, vL, vW, vP, hv, hc, h⟩ := h
  refine ⟨F, vL, vW, vP, hv, hc, ⟨h.f.below hb, h.r.below hb, h.b.below hb, h.bf, h.br, h.bb, h.fr, h.fb, h.rb, fun x hx => ?_, Nat.le_trans h.sz hb.size⟩⟩
  rcases List.mem_cons.1 hx with rfl | hx
  · exact ⟨by simp, fun h' => by have := h.f.lt _ h'; omega, fun h' => by have := h.r.lt _ h'; omega, fun h' => by have := h.b.lt _ h'; omega⟩
  · exact ⟨Nat.lt_of_lt_of_le (h.s x hx).1 hb.size, (h.s x hx).2⟩
/-- One more, that has come meanwhile. -/
theorem PlayS.keep {g : Nat} (h : PlayS base w S p l sq m k pr L W P pb KL) (hb : Below w.heap.size w w') (hg : w.heap.size ≤ g) (hg2 : g < w'.heap.size) : PlayS base w' (g :: S) p l sq m k pr L W P pb KL := by
  obtain ⟨F, vL, vW, vP, hv, hc, h⟩ := h
  refine ⟨F, vL, vW, vP, hv, hc, ⟨h.f.below hb, h.r.below hb, h.b.below hb, h.bf, h.br, h.bb, h.fr, h.fb, h.rb, fun x hx => ?_, Nat.le_trans h.sz hb.size⟩⟩
  rcases List.mem_cons.1 hx with rfl | hx
  · exact ⟨hg2, fun h' => by have := h.f.lt _ h'; omega, fun h' => by have := h.r.lt _ h'; omega, fun h' => by have := h.b.lt _ h'; omega⟩
  · exact ⟨Nat.lt_of_lt_of_le (h.s x hx).1 hb.size, (h.s x hx).2⟩
theorem PlayS.less {S' : List Nat} (h : PlayS base w S p l sq m k pr L W P pb KL) (hS : ∀ x ∈ S', x ∈ S) : PlayS base w S' p l sq m k pr L W P pb KL := by
  obtain ⟨F, vL, vW, vP, hv, hc, h⟩ := h
  exact ⟨F, vL, vW, vP, hv, hc, ⟨h.f, h.r, h.b, h.bf, h.br, h.bb, h.fr, h.fb, h.rb, fun x hx => h.s x (hS x hx), h.sz⟩⟩
theorem PlayS.size (h : PlayS base w S p l sq m k pr L W P pb KL) : base ≤ w.heap.size := by
  obtain ⟨F, vL, vW, vP, hv, hc, h⟩ := h
  exact h.sz
theorem PlayS.fre (h : PlayS base w S p l sq m k pr L W P pb KL) : Fre base w p l sq m k := by
  obtain ⟨F, vL, vW, vP, hv, hc, h⟩ := h
  exact ⟨F, h.f, h.bf⟩

/-- The pages turn. -/
theorem Play.turnF {F F' : List Nat} {vL vW vP hv hc : Value} {l' k' : List Int} {sq' : Nat} {m' : List Due} (h : Play base w S p F l sq m k pr vL vW vP L W P pb hv hc KL) (hf : FreeIs p w' F' l' (sq' : Int) m' k') (hg : Goes F w F' w') :
    PlayS base w' S p l' sq' m' k' pr L W P pb KL ∧ PLeft base S w w' := by
  have hnew : ∀ x ∈ F', x ∈ F ∨ w.heap.size ≤ x := hg.2
  refine ⟨⟨F', vL, vW, vP, hv, hc, ⟨hf, h.r.kept hg.1 (fun x hx hin => h.fr x hin hx), h.b.kept hg.1 (fun x hx hin => h.fb x hin hx), fun x hx => (hnew x hx).elim (h.bf x) (fun h1 => Nat.le_trans h.sz h1), h.br, h.bb,
    fun x hx hin => (hnew x hx).elim (fun h1 => h.fr x h1 hin) (fun h1 => by have := h.r.lt x hin; omega), fun x hx hin => (hnew x hx).elim (fun h1 => h.fb x h1 hin) (fun h1 => by have := h.b.lt x hin; omega), h.rb,
    fun x hx => ⟨Nat.lt_of_lt_of_le (h.s x hx).1 hg.1.size, fun hin => (hnew x hin).elim (h.s x hx).2.1 (fun h1 => by have := (h.s x hx).1; omega), (h.s x hx).2.2⟩, Nat.le_trans h.sz hg.1.size⟩⟩,
    pleft_of hg.1 h.sz h.bf (fun x hx => ⟨(h.s x hx).1, (h.s x hx).2.1⟩)⟩
/-- The document's own turn. -/
theorem Play.turnR {F : List Nat} {vL vW vP vL' vW' vP' hv hc : Value} {L' P' : List Int} {W' : List (Int × Int)} (h : Play base w S p F l sq m k pr vL vW vP L W P pb hv hc KL) (hf : RFr w' pr vL' vW' vP' L' W' P') (hg : Goes (rffoot pr vL vW vP) w (rffoot pr vL' vW' vP') w') :
    PlayS base w' S p l sq m k pr L' W' P' pb KL ∧ PLeft base S w w' := by
  have hnew := hg.2
  refine ⟨⟨F, vL', vW', vP', hv, hc, ⟨h.f.kept hg.1 (fun x hx hin => h.fr x hx hin), hf, h.b.kept hg.1 (fun x hx hin => h.rb x hin hx), h.bf, fun x hx => (hnew x hx).elim (h.br x) (fun h1 => Nat.le_trans h.sz h1), h.bb,
    fun x hx hin => (hnew x hin).elim (fun h1 => h.fr x hx h1) (fun h1 => by have := h.f.lt x hx; omega), h.fb, fun x hx hin => (hnew x hx).elim (fun h1 => h.rb x h1 hin) (fun h1 => by have := h.b.lt x hin; omega),
    fun x hx => ⟨Nat.lt_of_lt_of_le (h.s x hx).1 hg.1.size, (h.s x hx).2.1, fun hin => (hnew x hin).elim (h.s x hx).2.2.1 (fun h1 => by have := (h.s x hx).1; omega), (h.s x hx).2.2.2⟩, Nat.le_trans h.sz hg.1.size⟩⟩,
    pleft_of hg.1 h.sz h.br (fun x hx => ⟨(h.s x hx).1, (h.s x hx).2.2.1⟩)⟩

theorem play_take {x : Int} {s : List Int} (h : PlayS base w S p l sq m k pr L W P pb KL) (hp : l.Perm (x :: s)) (hm : ∀ y ∈ s, x ≤ y) :
    Calls Tryz.prog 10 #[.pointer (some ⟨p, 0, none⟩)] w fun e w' => e = .returned (.tuple #[.int .i64 x, .bool true]) ∧ PlayS base w' S p s sq m k pr L W P pb KL ∧ PLeft base S w w' := by
  obtain ⟨F, vL, vW, vP, hv, hc, h⟩ := h
  refine (ftake_some h.f hp hm).mono ?_
  rintro e w' ⟨rfl, F', hf, hg⟩
  exact ⟨rfl, h.turnF hf hg⟩
theorem play_rtake {x : Int} {s : List Int} (h : PlayS base w S p l sq m k pr (x :: s) W P pb KL) (hl : s.length < 100000) :
    Calls Tryz.prog 11 #[.pointer (some ⟨pr, 0, none⟩)] w fun e w' => e = .returned (.tuple #[.int .i64 x, .bool true]) ∧ PlayS base w' S p l sq m k pr s W P pb KL ∧ PLeft base S w w' := by
  obtain ⟨F, vL, vW, vP, hv, hc, h⟩ := h
  refine (rfTake_some h.r hl).mono ?_
  rintro e w' ⟨rfl, _, _, _, hf, hg⟩
  exact ⟨rfl, h.turnR hf hg⟩
theorem play_take_none (h : PlayS base w S p [] sq m k pr L W P pb KL) :
    Calls Tryz.prog 10 #[.pointer (some ⟨p, 0, none⟩)] w fun e w' => e = .returned (.tuple #[.int .i64 0, .bool false]) ∧ w' = w := fre_take_none h.fre
theorem play_rtake_none (h : PlayS base w S p l sq m k pr [] W P pb KL) :
    Calls Tryz.prog 11 #[.pointer (some ⟨pr, 0, none⟩)] w fun e w' => e = .returned (.tuple #[.int .i64 0, .bool false]) ∧ w' = w := by
  obtain ⟨F, vL, vW, vP, hv, hc, h⟩ := h
  exact rfTake_none h.r
theorem play_pin (x : Int) (h : PlayS base w S p l sq m k pr L W P pb KL) (hl : k.length < 1000000) :
    Calls Tryz.prog 16 #[.pointer (some ⟨p, 0, none⟩), .int .i64 x] w fun e w' => e = .returned (.tuple #[]) ∧ PlayS base w' S p l sq m (x :: k) pr L W P pb KL ∧ PLeft base S w w' := by
  obtain ⟨F, vL, vW, vP, hv, hc, h⟩ := h
  refine (fpin_any x h.f hl).mono ?_
  rintro e w' ⟨rfl, F', hf, hg⟩
  exact ⟨rfl, h.turnF hf hg⟩
theorem play_unpin (x : Int) (h : PlayS base w S p l sq m k pr L W P pb KL) :
    Calls Tryz.prog 18 #[.pointer (some ⟨p, 0, none⟩), .int .i64 x] w fun e w' => e = .returned (.bool (decide (x ∈ k))) ∧ PlayS base w' S p l sq m (k.erase x) pr L W P pb KL ∧ PLeft base S w w' := by
  obtain ⟨F, vL, vW, vP, hv, hc, h⟩ := h
  refine (funpin_any x h.f).mono ?_
  rintro e w' ⟨rfl, F', hf, hg⟩
  exact ⟨rfl, h.turnF hf hg⟩
theorem play_runpin (x : Int) (h : PlayS base w S p l sq m k pr L W P pb KL) (hl : P.length ≤ 100000) :
    Calls Tryz.prog 19 #[.pointer (some ⟨pr, 0, none⟩), .int .i64 x] w fun e w' => e = .returned (.bool (decide (x ∈ P))) ∧ PlayS base w' S p l sq m k pr L W (P.erase x) pb KL ∧ PLeft base S w w' := by
  obtain ⟨F, vL, vW, vP, hv, hc, h⟩ := h
  refine (rfUnpin_any x h.r hl).mono ?_
  rintro e w' ⟨rfl, _, _, _, hf, hg⟩
  exact ⟨rfl, h.turnR hf hg⟩
theorem play_release (thr : Int) (h : PlayS base w S p l sq m k pr L W P pb KL) (hd : Distinct m) (hk : (k = [] ∧ thr = 9223372036854775807) ∨ ∃ s, k.Perm (thr :: s) ∧ ∀ y ∈ s, thr ≤ y) (hfew : l.length + m.length ≤ 1000000) :
    Calls Tryz.prog 20 #[.pointer (some ⟨p, 0, none⟩)] w fun e w' => e = .returned (.int .i64 ((dueOf thr m).length : Nat)) ∧ PlayS base w' S p (whats (dueOf thr m) ++ l) sq (lateOf thr m) k pr L W P pb KL ∧ PLeft base S w w' := by
  obtain ⟨F, vL, vW, vP, hv, hc, h⟩ := h
  refine (frelease_any thr h.f hd hk hfew).mono ?_
  rintro e w' ⟨rfl, F', hf, hg⟩
  exact ⟨rfl, h.turnF hf hg⟩
theorem play_rrelease (h : PlayS base w S p l sq m k pr L W P pb KL) (hl : W.length + L.length ≤ 100000) (hs : L.Pairwise (· ≤ ·)) :
    Calls Tryz.prog 21 #[.pointer (some ⟨pr, 0, none⟩)] w fun e w' => e = .returned (.int .i64 ((W.filter (rdue P)).length : Nat)) ∧ ∃ L', PlayS base w' S p l sq m k pr L' (W.filter (fun x => !rdue P x)) P pb KL ∧ PLeft base S w w' ∧ L'.Perm ((W.filter (rdue P)).map (·.2) ++ L) ∧ L'.Pairwise (· ≤ ·) := by
  obtain ⟨F, vL, vW, vP, hv, hc, h⟩ := h
  refine (rfRelease_any h.r hl hs).mono ?_
  rintro e w' ⟨rfl, L', ⟨_, _, _, hf, hg⟩, h1, h2⟩
  exact ⟨rfl, L', (h.turnR hf hg).1, (h.turnR hf hg).2, h1, h2⟩

/-- What reads in blocks that are none of theirs. -/
def ReadsS (base : Nat) (w : World) (S : List Nat) (v : Value) (xs : List Value) : Prop :=
  ∃ (A : Option Addr) (c : Nat), v = .slice A xs.length c ∧ (0 < xs.length → ∃ b off, A = some ⟨b, off, none⟩ ∧ b < w.heap.size ∧ (b < base ∨ b ∈ S) ∧ ∀ (j : Nat) (u : Value), xs[j]? = some u → w.cell? ⟨b, off + j, none⟩ = some u)
theorem ReadsS.left {v : Value} {xs : List Value} (h : ReadsS base w S v xs) (hl : PLeft base S w w') : ReadsS base w' S v xs := by
  obtain ⟨A, c, rfl, h⟩ := h
  refine ⟨A, c, rfl, fun hn => ?_⟩
  obtain ⟨b, off, rfl, hlt, hS, hc⟩ := h hn
  refine ⟨b, off, rfl, Nat.lt_of_lt_of_le hlt hl.size, hS, fun j u hu => ?_⟩
  rcases hS with h1 | h1
  · exact (hl.below.cell (p := ⟨b, off + j, none⟩) h1).trans (hc j u hu)
  · exact (World.cell?_of_block (hl.keep b h1)).trans (hc j u hu)
theorem ReadsS.toO {v : Value} {xs : List Value} {F : List Nat} (h : ReadsS base w S v xs) (hF : ∀ x ∈ F, base ≤ x) (hS : ∀ x ∈ S, x ∉ F) : ReadsO F w v xs := by
  obtain ⟨A, c, rfl, h⟩ := h
  refine ⟨A, c, rfl, fun hn => ?_⟩
  obtain ⟨b, off, rfl, hlt, h1, hc⟩ := h hn
  exact ⟨b, off, rfl, hlt, fun hin => h1.elim (fun h2 => by have := hF b hin; omega) (fun h2 => hS b h2 hin), hc⟩

theorem play_give {v : Value} {xs : List Int} (t : Int) (h : PlayS base w S p l sq m k pr L W P pb KL) (hv : ReadsS base w S v (xs.map (.int .i64))) (hl : xs.length + m.length ≤ 1000000) (hsq : xs.length + sq ≤ 1000000) :
    Calls Tryz.prog 12 #[.pointer (some ⟨p, 0, none⟩), .int .i64 t, v] w fun e w' => e = .returned (.tuple #[]) ∧ PlayS base w' S p l (sq + xs.length) (giv t sq xs ++ m) k pr L W P pb KL ∧ PLeft base S w w' := by
  obtain ⟨F, vL, vW, vP, hv', hc, h⟩ := h
  refine (fgive_any t h.f (hv.toO h.bf (fun x hx => (h.s x hx).2.1)) hl hsq).mono ?_
  rintro e w' ⟨rfl, F', hf, hg⟩
  exact ⟨rfl, h.turnF hf hg⟩
theorem play_rgive {v : Value} {xs : List Int} (t : Int) (h : PlayS base w S p l sq m k pr L W P pb KL) (hv : ReadsS base w S v (xs.map (.int .i64))) (hl : xs.length + W.length ≤ 100000) :
    Calls Tryz.prog 13 #[.pointer (some ⟨pr, 0, none⟩), .int .i64 t, v] w fun e w' => e = .returned (.tuple #[]) ∧ PlayS base w' S p l sq m k pr L (W ++ xs.map (fun x => (t, x))) P pb KL ∧ PLeft base S w w' := by
  obtain ⟨F, vL, vW, vP, hv', hc, h⟩ := h
  refine (rfGive_any t h.r (hv.toO h.br (fun x hx => (h.s x hx).2.2.1)) hl).mono ?_
  rintro e w' ⟨rfl, _, _, _, hf, hg⟩
  exact ⟨rfl, h.turnR hf hg⟩
theorem play_back {v : Value} {xs : List Int} (h : PlayS base w S p l sq m k pr L W P pb KL) (hv : ReadsS base w S v (xs.map (.int .i64))) (hl : xs.length + l.length ≤ 1000000) :
    Calls Tryz.prog 14 #[.pointer (some ⟨p, 0, none⟩), v] w fun e w' => e = .returned (.tuple #[]) ∧ PlayS base w' S p (xs ++ l) sq m k pr L W P pb KL ∧ PLeft base S w w' := by
  obtain ⟨F, vL, vW, vP, hv', hc, h⟩ := h
  refine (fback_any h.f (hv.toO h.bf (fun x hx => (h.s x hx).2.1)) hl).mono ?_
  rintro e w' ⟨rfl, F', hf, hg⟩
  exact ⟨rfl, h.turnF hf hg⟩
theorem play_rback {v : Value} {xs : List Int} (h : PlayS base w S p l sq m k pr L W P pb KL) (hv : ReadsS base w S v (xs.map (.int .i64))) (hl : xs.length + L.length ≤ 100000) (hs : L.Pairwise (· ≤ ·)) :
    Calls Tryz.prog 15 #[.pointer (some ⟨pr, 0, none⟩), v] w fun e w' => e = .returned (.tuple #[]) ∧ ∃ L', PlayS base w' S p l sq m k pr L' W P pb KL ∧ PLeft base S w w' ∧ L'.Perm (xs ++ L) ∧ L'.Pairwise (· ≤ ·) := by
  obtain ⟨F, vL, vW, vP, hv', hc, h⟩ := h
  refine (rfBack_any h.r (hv.toO h.br (fun x hx => (h.s x hx).2.2.1)) hl hs).mono ?_
  rintro e w' ⟨rfl, L', ⟨_, _, _, hf, hg⟩, h1, h2⟩
  exact ⟨rfl, L', (h.turnR hf hg).1, (h.turnR hf hg).2, h1, h2⟩
end
end Go.Proofs.YtjimjemogbphaaaGreat

namespace Go.Proofs.YtjimjemogbphaaaGreat
open Go.RowKit Go.Sort

theorem bkInts_full {w : World} {p : Nat} {hv hc dv dc : Value} {L : List KeptI} {M : List BD.KeptI} {v : Value} (h : BookAt w p hv hc L dv dc M) (hL : L.length = 250) (hvf : ∃ A n c, v = .slice A n c) :
    Calls Tryz.prog 24 #[.pointer (some ⟨p, 0, none⟩), v] w fun e w' => e = .returned (.tuple #[]) ∧ w' = w := by
  have hr1 : w.ownsRow 0 22 1 hv L.length (L.map KeptI.v) := h.ints.all ⟨22, 1, hv, L.length, L.map KeptI.v⟩ (by simp [shelfI])
  rw [hL] at hr1
  obtain ⟨A1, c1, rfl⟩ := row_form hr1
  have c2 : w.cell? ⟨p, 2, none⟩ = some (.slice A1 250 c1) := h.has.cell 2
  obtain ⟨A, n, c, rfl⟩ := hvf
  clear h hL hr1
  go_enter Tryz.func24, Tryz.ntmps24
  go_wp2
  go_end0
  exact ⟨rfl, rfl⟩

section
variable {base p pr pb sq : Nat} {w w' : World} {S : List Nat} {l k L P : List Int} {m : List Due} {W : List (Int × Int)} {KL : List KeptI}

theorem play_keep {v : Value} {xs : List Int} (h : PlayS base w (v.ownBlock.toList ++ S) p l sq m k pr L W P pb KL) (hrow : w.ownsRow 0 3 1 v xs.length (cellsI xs)) (hvb : ∀ g, v.ownBlock = some g → base ≤ g ∧ g ∉ S) (hL : KL.length ≤ 250) (hx : xs.length ≤ 1000000) :
    Calls Tryz.prog 24 #[.pointer (some ⟨pb, 0, none⟩), v] w fun e w' => e = .returned (.tuple #[]) ∧ ∃ KL', PlayS base w' S p l sq m k pr L W P pb KL' ∧ PLeft base S w w' ∧ KL'.length ≤ 250 ∧ (KL.length = 250 → w' = w ∧ KL' = KL) ∧ (KL.length < 250 → ∃ c, KL' = KL ++ [⟨v, c, xs⟩]) := by
  have hless := h.less (S' := S) (fun x hx => List.mem_append.2 (.inr hx))
  rcases Nat.lt_or_ge KL.length 250 with hlt | hge
  · obtain ⟨F, vL, vW, vP, hv, hc, h⟩ := h
    have hvo : ∀ g, v.ownBlock = some g → g < w.heap.size ∧ g ∉ F ∧ g ∉ rffoot pr vL vW vP ∧ g ∉ bfoot pb hv hc KL := fun g hg => h.s g (List.mem_append.2 (.inl (by simp [hg])))
    refine (keepI_any h.b hrow (fun g hg => (hvo g hg).2.2.2) hlt hx).mono ?_
    rintro e w' ⟨rfl, hv', hc', c, hb, hk, hnew⟩
    refine ⟨rfl, KL ++ [⟨v, c, xs⟩], ⟨F, vL, vW, vP, hv', hc', ⟨h.f.kept hk (fun x hx hin => h.fb x hx hin), h.r.kept hk (fun x hx hin => h.rb x hx hin), hb, h.bf, h.br, fun x hx => ?_, h.fr, fun x hx hin => ?_, fun x hx hin => ?_, fun x hx => ?_, Nat.le_trans h.sz hk.size⟩⟩,
      pleft_of hk h.sz h.bb (fun x hx => ⟨(h.s x (List.mem_append.2 (.inr hx))).1, (h.s x (List.mem_append.2 (.inr hx))).2.2.2⟩), by simp; omega, fun h1 => absurd h1 (by omega), fun _ => ⟨c, rfl⟩⟩
    · rcases hnew x hx with h1 | h1 | h1
      · exact h.bb x h1
      · exact (hvb x h1).1
      · exact Nat.le_trans h.sz h1
    · rcases hnew x hin with h1 | h1 | h1
      · exact h.fb x hx h1
      · exact (hvo x h1).2.1 hx
      · have := h.f.lt x hx; omega
    · rcases hnew x hin with h1 | h1 | h1
      · exact h.rb x hx h1
      · exact (hvo x h1).2.2.1 hx
      · have := h.r.lt x hx; omega
    · have hs := h.s x (List.mem_append.2 (.inr hx))
      refine ⟨Nat.lt_of_lt_of_le hs.1 hk.size, hs.2.1, hs.2.2.1, fun hin => ?_⟩
      rcases hnew x hin with h1 | h1 | h1
      · exact hs.2.2.2 h1
      · exact (hvb x h1).2 hx
      · have := hs.1; omega
  · have h250 : KL.length = 250 := by omega
    obtain ⟨F, vL, vW, vP, hv, hc, h⟩ := h
    refine (bkInts_full h.b h250 (by obtain ⟨A, c, hf⟩ := row_form hrow; exact ⟨A, _, c, hf⟩)).mono ?_
    rintro e w' ⟨rfl, rfl⟩
    exact ⟨rfl, KL, hless, PLeft.refl _ _ _, hL, fun _ => ⟨rfl, rfl⟩, fun h1 => absurd h1 (by omega)⟩

theorem PlayS.row {x : KeptI} (h : PlayS base w S p l sq m k pr L W P pb KL) (hx : x ∈ KL) : w.ownsRow 0 3 1 x.v x.xs.length (cellsI x.xs) := by
  obtain ⟨F, vL, vW, vP, hv, hc, h⟩ := h
  exact h.b.ints.all x.rv (by simp only [shelfI, List.mem_cons, List.mem_append]; exact .inr (.inr (.inl (List.mem_map_of_mem hx))))

theorem play_apart (h : PlayS base w S p l sq m k pr L W P pb KL) (hL : KL.length ≤ 250) (hx : ∀ x ∈ KL, x.xs.length ≤ 900000) :
    Calls Tryz.prog 29 #[.pointer (some ⟨pb, 0, none⟩)] w fun e w' => e = .returned (.bool true) ∧ Below base w w' := by
  obtain ⟨F, vL, vW, vP, hv, hc, h⟩ := h
  refine (apart_any h.b hL (by simp) hx (by simp)).mono ?_
  rintro e w' ⟨rfl, hk⟩
  exact ⟨rfl, hk.below h.sz h.bb⟩
end
end Go.Proofs.YtjimjemogbphaaaGreat
