/-
  DERIVED. GIVEN WITH THE SEED: THE CARDS: each row of YtlignamakiiokaaGreatDoorRows.lean that lists a variable, with what it lists TIED to the program's text (the seventh form; the later family's looks); each row that meets fmt, with fmt's text TOLD by the authors' own Lean function (tested against real Go, not proved from fmt's source: count such statements apart). THE CARD IS WHAT COUNTS. Prove the row's statement (the work); the ties are given (YtlignamakiiokaaGreatDoorTie.lean); close each card by the builder's one call (the guide's Derived/Test/ToyasCard.lean, 'card_holds'). Laid BY PROGRAM, IN A SANDBOX (cutbox-door.mjs). By AI agents, Wed Nov 11 2026. No macro, syntax, notation, axiom, sorry.
-/
import Derived.Test.YtlignamakiiokaaGreatDoorRows
import GoSem.ClaimSeven
namespace Go.Proofs.YtlignamakiiokaaGreatDoor
namespace Rows

/-- THE TIED CARD OF 'arboretumlaw10.OverPlays'. -/
def overPlaysCard : Claim7 := { stood := { row := overPlaysRow, standIns := [], harness := (true, "6d6497da99a2271fed00ace70174e416579c8083b0dacab75cea54ddb01e8b22"), looks := true }, kinds := [], alts := [], laidByText := true, laidKinds := [.data, .pinned], laidTests := true, laidLooks := .later }
def OverPlaysCardSaid : Prop := Claim7.holds Tryz.pinned (.plain (OpenSpec.ofChange overPlaysSpec)) overPlaysCard

/-- THE TIED CARD OF 'arboretumlaw10.OverBack'. -/
def overBackCard : Claim7 := { stood := { row := overBackRow, standIns := [], harness := (true, "6d6497da99a2271fed00ace70174e416579c8083b0dacab75cea54ddb01e8b22"), looks := true }, kinds := [], alts := [], laidByText := true, laidKinds := [.data, .pinned], laidTests := true, laidLooks := .later }
def OverBackCardSaid : Prop := Claim7.holds Tryz.pinned (.plain (OpenSpec.ofChange overBackSpec)) overBackCard

/-- THE TIED CARD OF 'arboretumlaw10.OverNone'. -/
def overNoneCard : Claim7 := { stood := { row := overNoneRow, standIns := [], harness := (true, "6d6497da99a2271fed00ace70174e416579c8083b0dacab75cea54ddb01e8b22"), looks := true }, kinds := [], alts := [], laidByText := true, laidKinds := [.data, .pinned], laidTests := true, laidLooks := .later }
def OverNoneCardSaid : Prop := Claim7.holds Tryz.pinned (.plain (OpenSpec.ofChange overNoneSpec)) overNoneCard

/-- THE TIED CARD OF 'arboretumlaw10.OverFull'. -/
def overFullCard : Claim7 := { stood := { row := overFullRow, standIns := [], harness := (true, "6d6497da99a2271fed00ace70174e416579c8083b0dacab75cea54ddb01e8b22"), looks := true }, kinds := [], alts := [], laidByText := true, laidKinds := [.data, .pinned], laidTests := true, laidLooks := .later }
def OverFullCardSaid : Prop := Claim7.holds Tryz.pinned (.plain (OpenSpec.ofChange overFullSpec)) overFullCard

/-- THE SECOND FORM's CARD OF 'arboretumlaw10.OverPlays'. -/
def overPlaysUptoCard : Claim7 := { stood := { row := overPlaysUptoRow, standIns := [], harness := (true, "6d6497da99a2271fed00ace70174e416579c8083b0dacab75cea54ddb01e8b22"), looks := true }, kinds := [], alts := [], laidByText := true, laidKinds := [.data, .pinned], laidTests := true, laidLooks := .later }
def OverPlaysUptoCardSaid : Prop := Claim7.holds Tryz.pinned (.plain (OpenSpec.upto overPlaysSpec)) overPlaysUptoCard

/-- THE SECOND FORM's CARD OF 'arboretumlaw10.OverBack'. -/
def overBackUptoCard : Claim7 := { stood := { row := overBackUptoRow, standIns := [], harness := (true, "6d6497da99a2271fed00ace70174e416579c8083b0dacab75cea54ddb01e8b22"), looks := true }, kinds := [], alts := [], laidByText := true, laidKinds := [.data, .pinned], laidTests := true, laidLooks := .later }
def OverBackUptoCardSaid : Prop := Claim7.holds Tryz.pinned (.plain (OpenSpec.upto overBackSpec)) overBackUptoCard

/-- THE SECOND FORM's CARD OF 'arboretumlaw10.OverNone'. -/
def overNoneUptoCard : Claim7 := { stood := { row := overNoneUptoRow, standIns := [], harness := (true, "6d6497da99a2271fed00ace70174e416579c8083b0dacab75cea54ddb01e8b22"), looks := true }, kinds := [], alts := [], laidByText := true, laidKinds := [.data, .pinned], laidTests := true, laidLooks := .later }
def OverNoneUptoCardSaid : Prop := Claim7.holds Tryz.pinned (.plain (OpenSpec.upto overNoneSpec)) overNoneUptoCard

/-- THE SECOND FORM's CARD OF 'arboretumlaw10.OverFull'. -/
def overFullUptoCard : Claim7 := { stood := { row := overFullUptoRow, standIns := [], harness := (true, "6d6497da99a2271fed00ace70174e416579c8083b0dacab75cea54ddb01e8b22"), looks := true }, kinds := [], alts := [], laidByText := true, laidKinds := [.data, .pinned], laidTests := true, laidLooks := .later }
def OverFullUptoCardSaid : Prop := Claim7.holds Tryz.pinned (.plain (OpenSpec.upto overFullSpec)) overFullUptoCard
end Rows
end Go.Proofs.YtlignamakiiokaaGreatDoor
