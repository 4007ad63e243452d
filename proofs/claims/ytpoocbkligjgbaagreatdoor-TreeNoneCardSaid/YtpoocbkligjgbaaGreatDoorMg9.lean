/-
  A pager in memory: its own block, its map, its device and its free pages; each to be turned by itself.
-/
import Derived.Test.YtpoocbkligjgbaaGreatDoorMg6
import Derived.Test.YtpoocbkligjgbaaGreatDoorMg7
import Derived.Test.YtpoocbkligjgbaaGreatDoorMg8
namespace Go.Proofs.YtpoocbkligjgbaaGreatDoor
open Go.RowKit Go.Sort

structure PgS where
  dev : DevS
  l : List Int
  sq : Int
  m : List Due
  k : List Int
  spare : List Int
  there : Int
  pages : Int
  txn : Int
  n : Nat
  H : Int → Chg

def pgCells (pd pf b : Nat) (v : Value) (there pages txn : Int) : Array Value :=
  #[.pointer (some ⟨pd, 0, none⟩), .pointer (some ⟨pf, 0, none⟩), v, .int .i64 0, .slice none 0 0, .slice none 0 0, .int .i64 there, .int .i64 pages, .int .i64 txn, .map (some b)]
def spareSpot (pd pf b : Nat) (there pages txn : Int) : Spot 2 := ⟨107, fun v => pgCells pd pf b v there pages txn, fun _ => rfl, fun _ _ => rfl⟩

/-- The blocks that a pager has to itself. -/
def pgOwn (p b : Nat) (v : Value) : List Nat := p :: b :: v.ownBlock.toList

/-- At p stands a pager over the device at pd and the free pages at pf, its map at b; all these blocks are F. -/
def PgIs (p pd pf b : Nat) (s : PgS) (F : List Nat) (w : World) : Prop :=
  ∃ v FD FF, Has w p 107 (pgCells pd pf b v s.there s.pages s.txn) ∧ NRow w p v s.spare ∧ HereIs w b s.n s.H ∧ DevAt w pd s.dev FD ∧ FreeIs pf w FF s.l s.sq s.m s.k ∧
    b ≠ p ∧ v.ownBlock ≠ some b ∧ (∀ x ∈ pgOwn p b v, x ∉ FD ∧ x ∉ FF) ∧ (∀ x ∈ FD, x ∉ FF) ∧ F = pgOwn p b v ++ (FD ++ FF)

section
variable {p pd pf b : Nat} {s : PgS} {F G : List Nat} {w w' : World}
theorem own_lt {v : Value} (hp : Has w p 107 (pgCells pd pf b v s.there s.pages s.txn)) (hn : NRow w p v s.spare) (hh : HereIs w b s.n s.H) : ∀ x ∈ pgOwn p b v, x < w.heap.size := by
  intro x hx
  simp only [pgOwn, List.mem_cons, Option.mem_toList] at hx
  rcases hx with rfl | rfl | hx
  · exact hp.inside
  · exact hh.lt
  · exact hn.lt x hx
theorem PgIs.lt (h : PgIs p pd pf b s F w) : ∀ x ∈ F, x < w.heap.size := by
  obtain ⟨v, FD, FF, hp, hn, hh, hd, hf, _, _, _, _, rfl⟩ := h
  intro x hx
  rcases List.mem_append.1 hx with hx | hx
  · exact own_lt hp hn hh x hx
  · rcases List.mem_append.1 hx with hx | hx
    · exact hd.lt x hx
    · exact hf.lt x hx
theorem PgIs.mem (h : PgIs p pd pf b s F w) : p ∈ F := by
  obtain ⟨v, FD, FF, _, _, _, _, _, _, _, _, _, rfl⟩ := h
  simp [pgOwn]
theorem PgIs.kept (h : PgIs p pd pf b s F w) (hk : Kept G w w') (hd : ∀ x ∈ F, x ∉ G) : PgIs p pd pf b s F w' := by
  obtain ⟨v, FD, FF, hp, hn, hh, hdv, hf, h1, h2, h3, h4, rfl⟩ := h
  simp only [pgOwn, List.mem_append, List.mem_cons, Option.mem_toList] at hd
  exact ⟨v, FD, FF, hp.kept hk (hd p (by simp)), hn.kept hk (fun g hg => hd g (by simp [hg])), hh.kept hk (hd b (by simp)), hdv.kept hk (fun x hx => hd x (by simp [hx])), hf.kept hk (fun x hx => hd x (by simp [hx])), h1, h2, h3, h4, rfl⟩
theorem PgIs.below (h : PgIs p pd pf b s F w) (hb : Below w.heap.size w w') : PgIs p pd pf b s F w' := h.kept (G := []) (Kept.of_below hb) (by simp)
theorem PgIs.perm (h : PgIs p pd pf b s F w) {l k spare : List Int} {m : List Due} (hl : s.l.Perm l) (hm : s.m.Perm m) (hk : s.k.Perm k) (hs : s.spare.Perm spare) : PgIs p pd pf b { s with l := l, m := m, k := k, spare := spare } F w := by
  obtain ⟨v, FD, FF, hp, hn, hh, hdv, hf, h1, h2, h3, h4, rfl⟩ := h
  exact ⟨v, FD, FF, hp, hn.perm hs, hh, hdv, hf.perm hl hm hk, h1, h2, h3, h4, rfl⟩

/-- The device by itself. -/
theorem PgIs.devL (h : PgIs p pd pf b s F w) : ∃ FD, DevAt w pd s.dev FD ∧ (∀ x ∈ FD, x ∈ F) ∧ ∀ d' FD' w', DevAt w' pd d' FD' → Goes FD w FD' w' → ∃ F', PgIs p pd pf b { s with dev := d' } F' w' ∧ Goes F w F' w' := by
  obtain ⟨v, FD, FF, hp, hn, hh, hdv, hf, h1, h2, h3, h4, rfl⟩ := h
  refine ⟨FD, hdv, fun x hx => by simp [hx], fun d' FD' w' hd' hg => ?_⟩
  have holt := own_lt hp hn hh
  have hflt := hf.lt
  have hno : ∀ x ∈ pgOwn p b v, x ∉ FD := fun x hx => (h3 x hx).1
  have hnew : ∀ x ∈ FD', x ∈ FD ∨ w.heap.size ≤ x := hg.2
  refine ⟨_, ⟨v, FD', FF, hp.kept hg.1 (hno p (by simp [pgOwn])), hn.kept hg.1 (fun g hgg => hno g (by simp [pgOwn, hgg])), hh.kept hg.1 (hno b (by simp [pgOwn])), hd', hf.kept hg.1 (fun x hx hd => h4 x hd hx), h1, h2, fun x hx => ⟨fun hx' => ?_, (h3 x hx).2⟩, fun x hx hx' => ?_, rfl⟩,
    hg.1.mono (fun x hx => .inl (by simp [hx])), fun x hx => ?_⟩
  · rcases hnew x hx' with h | h
    · exact hno x hx h
    · have := holt x hx; omega
  · rcases hnew x hx with h | h
    · exact h4 x h hx'
    · have := hflt x hx'; omega
  · rcases List.mem_append.1 hx with hx | hx
    · exact .inl (by simp [hx])
    · rcases List.mem_append.1 hx with hx | hx
      · exact (hnew x hx).imp (fun h => by simp [h]) id
      · exact .inl (by simp [hx])

/-- The free pages by themselves. -/
theorem PgIs.freeL (h : PgIs p pd pf b s F w) : ∃ FF, FreeIs pf w FF s.l s.sq s.m s.k ∧ (∀ x ∈ FF, x ∈ F) ∧ ∀ l' sq' m' k' FF' w', FreeIs pf w' FF' l' sq' m' k' → Goes FF w FF' w' →
    ∃ F', PgIs p pd pf b { s with l := l', sq := sq', m := m', k := k' } F' w' ∧ Goes F w F' w' := by
  obtain ⟨v, FD, FF, hp, hn, hh, hdv, hf, h1, h2, h3, h4, rfl⟩ := h
  refine ⟨FF, hf, fun x hx => by simp [hx], fun l' sq' m' k' FF' w' hf' hg => ?_⟩
  have holt := own_lt hp hn hh
  have hdlt := hdv.lt
  have hno : ∀ x ∈ pgOwn p b v, x ∉ FF := fun x hx => (h3 x hx).2
  have hnew : ∀ x ∈ FF', x ∈ FF ∨ w.heap.size ≤ x := hg.2
  refine ⟨_, ⟨v, FD, FF', hp.kept hg.1 (hno p (by simp [pgOwn])), hn.kept hg.1 (fun g hgg => hno g (by simp [pgOwn, hgg])), hh.kept hg.1 (hno b (by simp [pgOwn])), hdv.kept hg.1 h4, hf', h1, h2, fun x hx => ⟨(h3 x hx).1, fun hx' => ?_⟩, fun x hx hx' => ?_, rfl⟩,
    hg.1.mono (fun x hx => .inl (by simp [hx])), fun x hx => ?_⟩
  · rcases hnew x hx' with h | h
    · exact hno x hx h
    · have := holt x hx; omega
  · rcases hnew x hx' with h | h
    · exact h4 x hx h
    · have := hdlt x hx; omega
  · rcases List.mem_append.1 hx with hx | hx
    · exact .inl (by simp [hx])
    · rcases List.mem_append.1 hx with hx | hx
      · exact .inl (by simp [hx])
      · exact (hnew x hx).imp (fun h => by simp [h]) id

/-- What a pager has to itself, by itself. -/
theorem PgIs.ownL (h : PgIs p pd pf b s F w) : ∃ v, Has w p 107 (pgCells pd pf b v s.there s.pages s.txn) ∧ NRow w p v s.spare ∧ HereIs w b s.n s.H ∧ b ≠ p ∧ v.ownBlock ≠ some b ∧ (∀ x ∈ pgOwn p b v, x ∈ F) ∧
    ∀ v' there' pages' spare' n' H' w', Has w' p 107 (pgCells pd pf b v' there' pages' s.txn) → NRow w' p v' spare' → HereIs w' b n' H' → Goes (pgOwn p b v) w (pgOwn p b v') w' → v'.ownBlock ≠ some b →
      ∃ F', PgIs p pd pf b { s with there := there', pages := pages', spare := spare', n := n', H := H' } F' w' ∧ Goes F w F' w' := by
  obtain ⟨v, FD, FF, hp, hn, hh, hdv, hf, h1, h2, h3, h4, rfl⟩ := h
  refine ⟨v, hp, hn, hh, h1, h2, fun x hx => by simp [hx], fun v' there' pages' spare' n' H' w' hp' hn' hh' hg hv' => ?_⟩
  have hdlt := hdv.lt
  have hflt := hf.lt
  have hnew : ∀ x ∈ pgOwn p b v', x ∈ pgOwn p b v ∨ w.heap.size ≤ x := hg.2
  refine ⟨_, ⟨v', FD, FF, hp', hn', hh', hdv.kept hg.1 (fun x hx hx' => (h3 x hx').1 hx), hf.kept hg.1 (fun x hx hx' => (h3 x hx').2 hx), h1, hv', fun x hx => ⟨fun hx' => ?_, fun hx' => ?_⟩, h4, rfl⟩,
    hg.1.mono (fun x hx => .inl (by simp [hx])), fun x hx => ?_⟩
  · rcases hnew x hx with h | h
    · exact (h3 x h).1 hx'
    · have := hdlt x hx'; omega
  · rcases hnew x hx with h | h
    · exact (h3 x h).2 hx'
    · have := hflt x hx'; omega
  · rcases List.mem_append.1 hx with hx | hx
    · exact (hnew x hx).imp (fun h => by simp [h]) id
    · exact .inl (by simp [hx])

/-- Its cells. -/
theorem PgIs.cells (h : PgIs p pd pf b s F w) : ∃ v, Has w p 107 (pgCells pd pf b v s.there s.pages s.txn) := by
  obtain ⟨v, FD, FF, hp, _⟩ := h
  exact ⟨v, hp⟩
theorem PgIs.here (h : PgIs p pd pf b s F w) : HereIs w b s.n s.H := by
  obtain ⟨v, FD, FF, _, _, hh, _⟩ := h
  exact hh
theorem PgIs.devOK (h : PgIs p pd pf b s F w) : DevOK s.dev := by
  obtain ⟨v, FD, FF, _, _, _, hd, _⟩ := h
  exact hd.ok

/-- The map alone turns. -/
theorem PgIs.setHere (h : PgIs p pd pf b s F w) {n' : Nat} {H' : Int → Chg} (hh : HereIs w' b n' H') (hk : Kept [b] w w') : PgIs p pd pf b { s with n := n', H := H' } F w' ∧ Kept F w w' := by
  obtain ⟨v, FD, FF, hp, hn, hh0, hdv, hf, h1, h2, h3, h4, rfl⟩ := h
  have hb := h3 b (by simp [pgOwn])
  refine ⟨⟨v, FD, FF, hp.kept hk (by simpa using fun e => h1 e.symm), hn.kept hk (fun g hg => by simp; exact fun e => h2 (by rw [hg, e])), hh, hdv.kept hk (fun x hx e => hb.1 (by simp at e; exact e ▸ hx)), hf.kept hk (fun x hx e => hb.2 (by simp at e; exact e ▸ hx)), h1, h2, h3, h4, rfl⟩, hk.mono (fun x hx => .inl ?_)⟩
  simp at hx
  subst hx
  simp [pgOwn]

/-- The spare ones by themselves. -/
theorem PgIs.spareL (h : PgIs p pd pf b s F w) : ∃ F0, PileIs p (spareSpot pd pf b s.there s.pages s.txn) w F0 s.spare ∧ (∀ x ∈ F0, x ∈ F) ∧ ∀ w' F0' l', PileIs p (spareSpot pd pf b s.there s.pages s.txn) w' F0' l' → Goes F0 w F0' w' →
    ∃ F', PgIs p pd pf b { s with spare := l' } F' w' ∧ Goes F w F' w' := by
  obtain ⟨v, hp, hn, hh, h1, h2, hsub, hback⟩ := h.ownL
  refine ⟨p :: v.ownBlock.toList, pile_of (S := spareSpot pd pf b s.there s.pages s.txn) hp hn, fun x hx => hsub x (by simp [pgOwn] at hx ⊢; rcases hx with h | h <;> simp [h]), fun w' F0' l' hpi hg => ?_⟩
  obtain ⟨u, hpu, hu, rfl⟩ := of_pile hpi
  have hhb : b ∉ p :: v.ownBlock.toList := by simp; exact ⟨h1, fun e => h2 e⟩
  have hub : u.ownBlock ≠ some b := fun e => by
    rcases hg.2 b (by simp [e]) with h | h
    · exact hhb h
    · have := hh.lt; omega
  refine hback u s.there s.pages l' s.n s.H w' hpu hu (hh.kept hg.1 hhb) ⟨hg.1.mono (fun x hx => .inl (by simp [pgOwn] at hx ⊢; rcases hx with h | h <;> simp [h])), fun x hx => ?_⟩ hub
  simp only [pgOwn, List.mem_cons, Option.mem_toList] at hx ⊢
  rcases hx with rfl | rfl | hx
  · exact .inl (.inl rfl)
  · exact .inl (.inr (.inl rfl))
  · rcases hg.2 x (by simp [hx]) with h | h
    · simp at h
      rcases h with rfl | h
      · exact .inl (.inl rfl)
      · exact .inl (.inr (.inr h))
    · exact .inr h
end
end Go.Proofs.YtpoocbkligjgbaaGreatDoor
