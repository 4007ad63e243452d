/-
  No cell of these rows narrows 'for every input' (looked for: loops, veiled, ifaces, maps, wideKeys, modest, calm, conditions, laid).
  DERIVED. THE GIVEN ROWS OF THIS SEAT. 5 by the template 'for every input the law returns true; each argument reads behind the call as it read before'; 0 by the template 'total and deterministic' (their statements: YtikgpkondoifbaaTotals.lean).
  GIVEN WITH THE SEED: the statements are not yours to turn. If you find one false, say at which input.
  Laid BY PROGRAM, IN A SANDBOX (cutbox-rows.mjs): the forced cells as the released guide's own fill.sh prints them over the translation e15019c054ac5f0f… (all of the seat's roots in one cut). By AI agents, Wed Nov 11 2026. No macro, syntax, notation, axiom, sorry.
-/
import Derived.Test.YtikgpkondoifbaaChecked
import GoSem.Claim
import GoSem.ClaimJoined
import GoSem.ClaimMapViews
import Derived.JoinedTies
import Derived.KernelRfl
namespace Go.Proofs.Ytikgpkondoifbaa
/- THE CELL 'sum', in the pinned program and in every row, IS THE sha256 OF THE DUMP (.gsa) THAT YtikgpkondoifbaaProg.lean LOADS. Nothing in Lean hashes anything: it is a label: what it is worth is what the hold of that sum in a sandbox is worth. -/
noncomputable def Try.pinned : Pinned := { name := "ytikgpkondoifbaa", sum := "e15019c054ac5f0f1b6ad1274c5a32f67f2da5200f1973b72e96578044f41223", checked := Try.checked }
namespace Rows
def none {H : Type} : Left H := { results := [], args := [] }

/-- 'arboretumlaw3.PileNone': WHATEVER THE INPUT: true; the input reads as it did. -/
def pileNoneSpec : ChangeSpec := { name := "pileNone", fn := fun _ => fun
  | [d] => { results := [.lit (.bool true)], args := [d] }
  | _ => none }
def pileNoneRow : OpenClaim := { program := "ytikgpkondoifbaa", sum := "e15019c054ac5f0f1b6ad1274c5a32f67f2da5200f1973b72e96578044f41223", func := "arboretum/arboretumlaw3.PileNone", spec := "pileNone", unfollowed := true, recurses := true, apart := false }
def PileNoneSaid : Prop := pileNoneRow.holds Try.pinned (OpenSpec.ofChange pileNoneSpec)

/-- ITS FALSE NEIGHBOUR: 'it returns false'. Refute it at one input. -/
def pileNoneWrong : ChangeSpec := { name := "pileNone", fn := fun _ => fun
  | [d] => { results := [.lit (.bool false)], args := [d] }
  | _ => none }
def PileNoneWrongFalsely : Prop := pileNoneRow.holds Try.pinned (OpenSpec.ofChange pileNoneWrong)

/-- 'arboretumlaw3.PileSorts': WHATEVER THE INPUT: true; the input reads as it did. -/
def pileSortsSpec : ChangeSpec := { name := "pileSorts", fn := fun _ => fun
  | [d1, d2] => { results := [.lit (.bool true)], args := [d1, d2] }
  | _ => none }
def pileSortsRow : OpenClaim := { program := "ytikgpkondoifbaa", sum := "e15019c054ac5f0f1b6ad1274c5a32f67f2da5200f1973b72e96578044f41223", func := "arboretum/arboretumlaw3.PileSorts", spec := "pileSorts", unfollowed := true, recurses := true, apart := false }
def PileSortsSaid : Prop := pileSortsRow.holds Try.pinned (OpenSpec.ofChange pileSortsSpec)

/-- ITS FALSE NEIGHBOUR: 'it returns false'. Refute it at one input. -/
def pileSortsWrong : ChangeSpec := { name := "pileSorts", fn := fun _ => fun
  | [d1, d2] => { results := [.lit (.bool false)], args := [d1, d2] }
  | _ => none }
def PileSortsWrongFalsely : Prop := pileSortsRow.holds Try.pinned (OpenSpec.ofChange pileSortsWrong)

/-- 'arboretumlaw3.PileDue': WHATEVER THE INPUT: true; the input reads as it did. -/
def pileDueSpec : ChangeSpec := { name := "pileDue", fn := fun _ => fun
  | [d1, d2] => { results := [.lit (.bool true)], args := [d1, d2] }
  | _ => none }
def pileDueRow : OpenClaim := { program := "ytikgpkondoifbaa", sum := "e15019c054ac5f0f1b6ad1274c5a32f67f2da5200f1973b72e96578044f41223", func := "arboretum/arboretumlaw3.PileDue", spec := "pileDue", unfollowed := true, recurses := true, apart := false }
def PileDueSaid : Prop := pileDueRow.holds Try.pinned (OpenSpec.ofChange pileDueSpec)

/-- ITS FALSE NEIGHBOUR: 'it returns false'. Refute it at one input. -/
def pileDueWrong : ChangeSpec := { name := "pileDue", fn := fun _ => fun
  | [d1, d2] => { results := [.lit (.bool false)], args := [d1, d2] }
  | _ => none }
def PileDueWrongFalsely : Prop := pileDueRow.holds Try.pinned (OpenSpec.ofChange pileDueWrong)

/-- 'arboretumlaw3.PileJoins': WHATEVER THE INPUT: true; the input reads as it did. -/
def pileJoinsSpec : ChangeSpec := { name := "pileJoins", fn := fun _ => fun
  | [d1, d2] => { results := [.lit (.bool true)], args := [d1, d2] }
  | _ => none }
def pileJoinsRow : OpenClaim := { program := "ytikgpkondoifbaa", sum := "e15019c054ac5f0f1b6ad1274c5a32f67f2da5200f1973b72e96578044f41223", func := "arboretum/arboretumlaw3.PileJoins", spec := "pileJoins", unfollowed := true, recurses := true, apart := false }
def PileJoinsSaid : Prop := pileJoinsRow.holds Try.pinned (OpenSpec.ofChange pileJoinsSpec)

/-- ITS FALSE NEIGHBOUR: 'it returns false'. Refute it at one input. -/
def pileJoinsWrong : ChangeSpec := { name := "pileJoins", fn := fun _ => fun
  | [d1, d2] => { results := [.lit (.bool false)], args := [d1, d2] }
  | _ => none }
def PileJoinsWrongFalsely : Prop := pileJoinsRow.holds Try.pinned (OpenSpec.ofChange pileJoinsWrong)

/-- 'arboretumlaw3.PileFirst': WHATEVER THE INPUT: true; the input reads as it did. -/
def pileFirstSpec : ChangeSpec := { name := "pileFirst", fn := fun _ => fun
  | [d1, d2] => { results := [.lit (.bool true)], args := [d1, d2] }
  | _ => none }
def pileFirstRow : OpenClaim := { program := "ytikgpkondoifbaa", sum := "e15019c054ac5f0f1b6ad1274c5a32f67f2da5200f1973b72e96578044f41223", func := "arboretum/arboretumlaw3.PileFirst", spec := "pileFirst", unfollowed := true, recurses := true, apart := false }
def PileFirstSaid : Prop := pileFirstRow.holds Try.pinned (OpenSpec.ofChange pileFirstSpec)

/-- ITS FALSE NEIGHBOUR: 'it returns false'. Refute it at one input. -/
def pileFirstWrong : ChangeSpec := { name := "pileFirst", fn := fun _ => fun
  | [d1, d2] => { results := [.lit (.bool false)], args := [d1, d2] }
  | _ => none }
def PileFirstWrongFalsely : Prop := pileFirstRow.holds Try.pinned (OpenSpec.ofChange pileFirstWrong)

/- THE SECOND FORM. 'bulk': how many values and letters a reading holds, each counted each time it is reached (what is shared counts as often as it is met; a slice's spare places count too). A statement '..UptoSaid' is the law's where the arguments, and the package variables that the reading takes, are together of bulk at most 1048576: NARROWER than '..Said'. Prove '..Said' where nothing that the law and all that it calls make is longer than what came in: it says more and counts as full. Else prove '..UptoSaid'. A law counts once. -/
mutual
def uptoBulk {H : Type} : DataW H → Nat
  | .lit (.string bytes) => bytes.length + 1
  | .lit _ => 1
  | .nil => 1
  | .ptr d => uptoBulk d + 1
  | .slice elems spare => uptoBulkAll elems + uptoBulkAll spare + 1
  | .agg parts => uptoBulkAll parts + 1
  | .iface _ d => uptoBulk d + 1
  | .map entries => uptoBulkEntries entries + 1
  | .held _ => 1
def uptoBulkAll {H : Type} : List (DataW H) → Nat
  | [] => 0
  | d :: r => uptoBulk d + uptoBulkAll r
def uptoBulkEntries {H : Type} : List (Lit × DataW H) → Nat
  | [] => 0
  | x :: r => uptoBulkEntry x + uptoBulkEntries r
def uptoBulkEntry {H : Type} : Lit × DataW H → Nat
  | (.string bytes, d) => bytes.length + uptoBulk d + 1
  | (_, d) => uptoBulk d + 1
 end
def uptoSmall : (H : Type) → List (DataW H) → Bool := fun _ ds => decide (uptoBulkAll ds ≤ 1048576)
def OpenSpec.upto (s : _root_.Go.ChangeSpec) : _root_.Go.OpenSpec := { _root_.Go.OpenSpec.ofChange s with cond := some uptoSmall }

/-- 'arboretumlaw3.PileNone', WHERE WHAT IT READS IS OF BULK AT MOST 1048576: true; the input reads as it did. -/
def pileNoneUptoRow : OpenClaim := { program := "ytikgpkondoifbaa", sum := "e15019c054ac5f0f1b6ad1274c5a32f67f2da5200f1973b72e96578044f41223", func := "arboretum/arboretumlaw3.PileNone", spec := "pileNone", unfollowed := true, recurses := true, apart := false, narrowed := true }
def PileNoneUptoSaid : Prop := pileNoneUptoRow.holds Try.pinned (OpenSpec.upto pileNoneSpec)

/-- 'arboretumlaw3.PileSorts', WHERE WHAT IT READS IS OF BULK AT MOST 1048576: true; the input reads as it did. -/
def pileSortsUptoRow : OpenClaim := { program := "ytikgpkondoifbaa", sum := "e15019c054ac5f0f1b6ad1274c5a32f67f2da5200f1973b72e96578044f41223", func := "arboretum/arboretumlaw3.PileSorts", spec := "pileSorts", unfollowed := true, recurses := true, apart := false, narrowed := true }
def PileSortsUptoSaid : Prop := pileSortsUptoRow.holds Try.pinned (OpenSpec.upto pileSortsSpec)

/-- 'arboretumlaw3.PileDue', WHERE WHAT IT READS IS OF BULK AT MOST 1048576: true; the input reads as it did. -/
def pileDueUptoRow : OpenClaim := { program := "ytikgpkondoifbaa", sum := "e15019c054ac5f0f1b6ad1274c5a32f67f2da5200f1973b72e96578044f41223", func := "arboretum/arboretumlaw3.PileDue", spec := "pileDue", unfollowed := true, recurses := true, apart := false, narrowed := true }
def PileDueUptoSaid : Prop := pileDueUptoRow.holds Try.pinned (OpenSpec.upto pileDueSpec)

/-- 'arboretumlaw3.PileJoins', WHERE WHAT IT READS IS OF BULK AT MOST 1048576: true; the input reads as it did. -/
def pileJoinsUptoRow : OpenClaim := { program := "ytikgpkondoifbaa", sum := "e15019c054ac5f0f1b6ad1274c5a32f67f2da5200f1973b72e96578044f41223", func := "arboretum/arboretumlaw3.PileJoins", spec := "pileJoins", unfollowed := true, recurses := true, apart := false, narrowed := true }
def PileJoinsUptoSaid : Prop := pileJoinsUptoRow.holds Try.pinned (OpenSpec.upto pileJoinsSpec)

/-- 'arboretumlaw3.PileFirst', WHERE WHAT IT READS IS OF BULK AT MOST 1048576: true; the input reads as it did. -/
def pileFirstUptoRow : OpenClaim := { program := "ytikgpkondoifbaa", sum := "e15019c054ac5f0f1b6ad1274c5a32f67f2da5200f1973b72e96578044f41223", func := "arboretum/arboretumlaw3.PileFirst", spec := "pileFirst", unfollowed := true, recurses := true, apart := false, narrowed := true }
def PileFirstUptoSaid : Prop := pileFirstUptoRow.holds Try.pinned (OpenSpec.upto pileFirstSpec)

end Rows
end Go.Proofs.Ytikgpkondoifbaa
