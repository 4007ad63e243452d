/-
  No cell of these rows narrows 'for every input' (looked for: loops, veiled, ifaces, maps, wideKeys, modest, calm, conditions, laid).
  DERIVED. THE GIVEN ROWS OF THIS SEAT. 4 by the template 'for every input the law returns true; each argument reads behind the call as it read before'; 0 by the template 'total and deterministic' (their statements: YtpfifmjcmpankaaTotals.lean).
  GIVEN WITH THE SEED: the statements are not yours to turn. If you find one false, say at which input.
  Laid BY PROGRAM, IN A SANDBOX (cutbox-rows.mjs): the forced cells as the released guide's own fill.sh prints them over the translation 8be320e8a4bb4431… (all of the seat's roots in one cut). By AI agents, Wed Nov 11 2026. No macro, syntax, notation, axiom, sorry.
-/
import Derived.Test.YtpfifmjcmpankaaChecked
import GoSem.Claim
import GoSem.ClaimJoined
import GoSem.ClaimMapViews
import Derived.JoinedTies
import Derived.KernelRfl
namespace Go.Proofs.Ytpfifmjcmpankaa
/- THE CELL 'sum', in the pinned program and in every row, IS THE sha256 OF THE DUMP (.gsa) THAT YtpfifmjcmpankaaProg.lean LOADS. Nothing in Lean hashes anything: it is a label: what it is worth is what the hold of that sum in a sandbox is worth. -/
noncomputable def Try.pinned : Pinned := { name := "ytpfifmjcmpankaa", sum := "8be320e8a4bb4431af2c83b97230b5238f0d42b967dca94f4582b9e65c82acbc", checked := Try.checked }
namespace Rows
def none {H : Type} : Left H := { results := [], args := [] }

/-- 'arboretumlaw9.BranchFits': WHATEVER THE INPUT: true; the input reads as it did. -/
def branchFitsSpec : ChangeSpec := { name := "branchFits", fn := fun _ => fun
  | [d1, d2, d3] => { results := [.lit (.bool true)], args := [d1, d2, d3] }
  | _ => none }
def branchFitsRow : OpenClaim := { program := "ytpfifmjcmpankaa", sum := "8be320e8a4bb4431af2c83b97230b5238f0d42b967dca94f4582b9e65c82acbc", func := "arboretum/arboretumlaw9.BranchFits", spec := "branchFits", inPlace := ["internal/abi.NoEscape"], unfollowed := true, recurses := true, apart := false }
def BranchFitsSaid : Prop := branchFitsRow.holds Try.pinned (OpenSpec.ofChange branchFitsSpec)

/-- ITS FALSE NEIGHBOUR: 'it returns false'. Refute it at one input. -/
def branchFitsWrong : ChangeSpec := { name := "branchFits", fn := fun _ => fun
  | [d1, d2, d3] => { results := [.lit (.bool false)], args := [d1, d2, d3] }
  | _ => none }
def BranchFitsWrongFalsely : Prop := branchFitsRow.holds Try.pinned (OpenSpec.ofChange branchFitsWrong)

/-- 'arboretumlaw9.BranchFinds': WHATEVER THE INPUT: true; the input reads as it did. -/
def branchFindsSpec : ChangeSpec := { name := "branchFinds", fn := fun _ => fun
  | [d1, d2] => { results := [.lit (.bool true)], args := [d1, d2] }
  | _ => none }
def branchFindsRow : OpenClaim := { program := "ytpfifmjcmpankaa", sum := "8be320e8a4bb4431af2c83b97230b5238f0d42b967dca94f4582b9e65c82acbc", func := "arboretum/arboretumlaw9.BranchFinds", spec := "branchFinds", inPlace := ["internal/abi.NoEscape"], unfollowed := true, recurses := true, apart := false }
def BranchFindsSaid : Prop := branchFindsRow.holds Try.pinned (OpenSpec.ofChange branchFindsSpec)

/-- ITS FALSE NEIGHBOUR: 'it returns false'. Refute it at one input. -/
def branchFindsWrong : ChangeSpec := { name := "branchFinds", fn := fun _ => fun
  | [d1, d2] => { results := [.lit (.bool false)], args := [d1, d2] }
  | _ => none }
def BranchFindsWrongFalsely : Prop := branchFindsRow.holds Try.pinned (OpenSpec.ofChange branchFindsWrong)

/-- 'arboretumlaw9.BranchBack': WHATEVER THE INPUT: true; the input reads as it did. -/
def branchBackSpec : ChangeSpec := { name := "branchBack", fn := fun _ => fun
  | [d1, d2] => { results := [.lit (.bool true)], args := [d1, d2] }
  | _ => none }
def branchBackRow : OpenClaim := { program := "ytpfifmjcmpankaa", sum := "8be320e8a4bb4431af2c83b97230b5238f0d42b967dca94f4582b9e65c82acbc", func := "arboretum/arboretumlaw9.BranchBack", spec := "branchBack", inPlace := ["internal/abi.NoEscape"], unfollowed := true, recurses := true, apart := false }
def BranchBackSaid : Prop := branchBackRow.holds Try.pinned (OpenSpec.ofChange branchBackSpec)

/-- ITS FALSE NEIGHBOUR: 'it returns false'. Refute it at one input. -/
def branchBackWrong : ChangeSpec := { name := "branchBack", fn := fun _ => fun
  | [d1, d2] => { results := [.lit (.bool false)], args := [d1, d2] }
  | _ => none }
def BranchBackWrongFalsely : Prop := branchBackRow.holds Try.pinned (OpenSpec.ofChange branchBackWrong)

/-- 'arboretumlaw9.BranchReplaces': WHATEVER THE INPUT: true; the input reads as it did. -/
def branchReplacesSpec : ChangeSpec := { name := "branchReplaces", fn := fun _ => fun
  | [d1, d2, d3] => { results := [.lit (.bool true)], args := [d1, d2, d3] }
  | _ => none }
def branchReplacesRow : OpenClaim := { program := "ytpfifmjcmpankaa", sum := "8be320e8a4bb4431af2c83b97230b5238f0d42b967dca94f4582b9e65c82acbc", func := "arboretum/arboretumlaw9.BranchReplaces", spec := "branchReplaces", inPlace := ["internal/abi.NoEscape"], unfollowed := true, recurses := true, apart := false }
def BranchReplacesSaid : Prop := branchReplacesRow.holds Try.pinned (OpenSpec.ofChange branchReplacesSpec)

/-- ITS FALSE NEIGHBOUR: 'it returns false'. Refute it at one input. -/
def branchReplacesWrong : ChangeSpec := { name := "branchReplaces", fn := fun _ => fun
  | [d1, d2, d3] => { results := [.lit (.bool false)], args := [d1, d2, d3] }
  | _ => none }
def BranchReplacesWrongFalsely : Prop := branchReplacesRow.holds Try.pinned (OpenSpec.ofChange branchReplacesWrong)

/- THE SECOND FORM. 'bulk': how many values and letters a reading holds, each counted each time it is reached (what is shared counts as often as it is met; a slice's spare places count too). A statement '..UptoSaid' is the law's where the arguments, and the package variables that the reading takes, are together of bulk at most 1048576: NARROWER than '..Said'. Prove '..Said' where nothing that the law and all that it calls make is longer than what came in: it says more and counts as full. Else prove '..UptoSaid'. A law counts once. -/
mutual
def uptoBulk {H : Type} : DataW H → Nat
  | .lit (.string bytes) => bytes.length + 1
  | .lit _ => 1
  | .nil => 1
  | .ptr d => uptoBulk d + 1
  | .slice elems spare => uptoBulkAll elems + uptoBulkAll spare + 1
  | .agg parts => uptoBulkAll parts + 1
  | .iface _ d => uptoBulk d + 1
  | .map entries => uptoBulkEntries entries + 1
  | .held _ => 1
def uptoBulkAll {H : Type} : List (DataW H) → Nat
  | [] => 0
  | d :: r => uptoBulk d + uptoBulkAll r
def uptoBulkEntries {H : Type} : List (Lit × DataW H) → Nat
  | [] => 0
  | x :: r => uptoBulkEntry x + uptoBulkEntries r
def uptoBulkEntry {H : Type} : Lit × DataW H → Nat
  | (.string bytes, d) => bytes.length + uptoBulk d + 1
  | (_, d) => uptoBulk d + 1
 end
def uptoSmall : (H : Type) → List (DataW H) → Bool := fun _ ds => decide (uptoBulkAll ds ≤ 1048576)
def OpenSpec.upto (s : _root_.Go.ChangeSpec) : _root_.Go.OpenSpec := { _root_.Go.OpenSpec.ofChange s with cond := some uptoSmall }

/-- 'arboretumlaw9.BranchFits', WHERE WHAT IT READS IS OF BULK AT MOST 1048576: true; the input reads as it did. -/
def branchFitsUptoRow : OpenClaim := { program := "ytpfifmjcmpankaa", sum := "8be320e8a4bb4431af2c83b97230b5238f0d42b967dca94f4582b9e65c82acbc", func := "arboretum/arboretumlaw9.BranchFits", spec := "branchFits", inPlace := ["internal/abi.NoEscape"], unfollowed := true, recurses := true, apart := false, narrowed := true }
def BranchFitsUptoSaid : Prop := branchFitsUptoRow.holds Try.pinned (OpenSpec.upto branchFitsSpec)

/-- 'arboretumlaw9.BranchFinds', WHERE WHAT IT READS IS OF BULK AT MOST 1048576: true; the input reads as it did. -/
def branchFindsUptoRow : OpenClaim := { program := "ytpfifmjcmpankaa", sum := "8be320e8a4bb4431af2c83b97230b5238f0d42b967dca94f4582b9e65c82acbc", func := "arboretum/arboretumlaw9.BranchFinds", spec := "branchFinds", inPlace := ["internal/abi.NoEscape"], unfollowed := true, recurses := true, apart := false, narrowed := true }
def BranchFindsUptoSaid : Prop := branchFindsUptoRow.holds Try.pinned (OpenSpec.upto branchFindsSpec)

/-- 'arboretumlaw9.BranchBack', WHERE WHAT IT READS IS OF BULK AT MOST 1048576: true; the input reads as it did. -/
def branchBackUptoRow : OpenClaim := { program := "ytpfifmjcmpankaa", sum := "8be320e8a4bb4431af2c83b97230b5238f0d42b967dca94f4582b9e65c82acbc", func := "arboretum/arboretumlaw9.BranchBack", spec := "branchBack", inPlace := ["internal/abi.NoEscape"], unfollowed := true, recurses := true, apart := false, narrowed := true }
def BranchBackUptoSaid : Prop := branchBackUptoRow.holds Try.pinned (OpenSpec.upto branchBackSpec)

/-- 'arboretumlaw9.BranchReplaces', WHERE WHAT IT READS IS OF BULK AT MOST 1048576: true; the input reads as it did. -/
def branchReplacesUptoRow : OpenClaim := { program := "ytpfifmjcmpankaa", sum := "8be320e8a4bb4431af2c83b97230b5238f0d42b967dca94f4582b9e65c82acbc", func := "arboretum/arboretumlaw9.BranchReplaces", spec := "branchReplaces", inPlace := ["internal/abi.NoEscape"], unfollowed := true, recurses := true, apart := false, narrowed := true }
def BranchReplacesUptoSaid : Prop := branchReplacesUptoRow.holds Try.pinned (OpenSpec.upto branchReplacesSpec)

end Rows
end Go.Proofs.Ytpfifmjcmpankaa
