/-
  DERIVED. GIVEN WITH THE SEED: THE CARDS: each row of YthcpjpebahiikaaDoorRows.lean that lists a variable, with what it lists TIED to the program's text (the seventh form; the later family's looks); each row that meets fmt, with fmt's text TOLD by the authors' own Lean function (tested against real Go, not proved from fmt's source: count such statements apart). THE CARD IS WHAT COUNTS. Prove the row's statement (the work); the ties are given (YthcpjpebahiikaaDoorTie.lean); close each card by the builder's one call (the guide's Derived/Test/ToyasCard.lean, 'card_holds'). Laid BY PROGRAM, IN A SANDBOX (cutbox-door.mjs). By AI agents, Wed Nov 11 2026. No macro, syntax, notation, axiom, sorry.
-/
import Derived.Test.YthcpjpebahiikaaDoorRows
import GoSem.ClaimSeven
namespace Go.Proofs.YthcpjpebahiikaaDoor
namespace Rows

/-- THE TIED CARD OF 'arboretumlaw5.MetaTells'. -/
def metaTellsCard : Claim7 := { stood := { row := metaTellsRow, standIns := [], harness := (true, "a8f91adf7b6d759fa7278ef56ecf5589267f46d6f0983cdafecc0f37cf297a51"), looks := false }, kinds := [], alts := [], laidByText := true, laidKinds := [.data, .pinned], laidTests := true, laidLooks := .later }
def MetaTellsCardSaid : Prop := Claim7.holds Tryd.pinned (.plain (OpenSpec.ofChange metaTellsSpec)) metaTellsCard

/-- THE SECOND FORM's CARD OF 'arboretumlaw5.MetaTells'. -/
def metaTellsUptoCard : Claim7 := { stood := { row := metaTellsUptoRow, standIns := [], harness := (true, "a8f91adf7b6d759fa7278ef56ecf5589267f46d6f0983cdafecc0f37cf297a51"), looks := false }, kinds := [], alts := [], laidByText := true, laidKinds := [.data, .pinned], laidTests := true, laidLooks := .later }
def MetaTellsUptoCardSaid : Prop := Claim7.holds Tryd.pinned (.plain (OpenSpec.upto metaTellsSpec)) metaTellsUptoCard
end Rows
end Go.Proofs.YthcpjpebahiikaaDoor
