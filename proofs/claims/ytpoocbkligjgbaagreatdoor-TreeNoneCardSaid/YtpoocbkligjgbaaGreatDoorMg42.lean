/-
  The closed facts of a row, in parts: each of them may be proved alone, in a text of its own.
-/
import Derived.JoinedCond
namespace Go.Proofs.YtpoocbkligjgbaaGreatDoor
open Go.ChangeShapes Go.WideShapes Go.ChangeAt

section
variable (P : Program) (f : FuncId) (fn : Func) (s : ChangeSpec) (c : OpenClaim)
def jf1 : Bool := c.wf (OpenSpec.ofChange s) && laidOutB P && mapsRowed P
def jf2 : Bool := fn.params.all (P.readableRec ·) && namedTie P c.named s.vars && (c.stops == []) && (P.stops == []) && (c.knobs == []) && (P.stopKnobs == [])
def jf3 : Bool := c.inPlace == P.inPlace f
def jf4 : Bool := c.unfollowed == P.unfollowed f
def jf5 : Bool := c.recurses == P.recurses f
def jf6 : Bool := c.named == P.varsNamed f
def jf7 : Bool := (c.maps == (fn.params.toList ++ s.plain.varTypes P).any (P.mapsRec ·)) && (c.ifaces == (fn.params.toList ++ s.plain.varTypes P).any (P.ifacesRec ·)) && (c.mapsOut == P.mapsAmong fn.resultTypes.toList)
def jf8 : Bool := (c.loops == (fn.params.toList ++ s.plain.varTypes P).any (P.loopsFrom ·)) && (c.wideKeys == (fn.params.toList ++ s.plain.varTypes P ++ fn.resultTypes.toList).any (P.wideKeysFrom ·))
def jf9 : Bool := s.vars.all (P.varReadable ·) && fn.resultTypes.all (fun t => P.readableRec t && decide (t < P.types.size)) && (c.ifacesOut == fn.resultTypes.toList.any (P.ifacesRec ·)) && (c.loopsOut == fn.resultTypes.toList.any (P.loopsFrom ·))
def jf10 : Bool := (c.plainKeys == P.plainKeys) && c.shortTexts.isNone && P.stopsHeard && P.mayEnter && (c.lifted == P.liftsFinal) && (P.make == some c.make)
def jf11 : Bool := (c.kinds == (if c.domain.isEmpty then [] else fn.params.toList.map fun t => match P.underlying t with | some (.int k) => some k | _ => none)) && (c.pinned == c.pinnedBy)
def jf12 : Bool := (c.veiled == (fn.params.toList ++ s.plain.varTypes P ++ fn.resultTypes.toList).any (P.veiledRec ·)) && c.veiledFits P fn.params.toList (fn.params.toList ++ s.plain.varTypes P ++ fn.resultTypes.toList)
theorem joined_of (h1 : jf1 P s c = true) (h2 : jf2 P fn s c = true) (h3 : jf3 P f c = true) (h4 : jf4 P f c = true) (h5 : jf5 P f c = true) (h6 : jf6 P f c = true) (h7 : jf7 P fn s c = true) (h8 : jf8 P fn s c = true)
    (h9 : jf9 P fn s c = true) (h10 : jf10 P c = true) (h11 : jf11 P fn c = true) (h12 : jf12 P fn s c = true) : joinedFacts P f fn s c = true := by
  simp only [jf1, jf2, jf3, jf4, jf5, jf6, jf7, jf8, jf9, jf10, jf11, jf12, Bool.and_eq_true] at h1 h2 h3 h4 h5 h6 h7 h8 h9 h10 h11 h12
  simp only [joinedFacts, Bool.and_eq_true]
  simp only [h1, h2, h3, h4, h5, h6, h7, h8, h9, h10, h11, h12, and_self]
  exact ⟨⟨⟨⟨trivial, h11.1⟩, trivial⟩, trivial⟩, trivial⟩
end
end Go.Proofs.YtpoocbkligjgbaaGreatDoor
