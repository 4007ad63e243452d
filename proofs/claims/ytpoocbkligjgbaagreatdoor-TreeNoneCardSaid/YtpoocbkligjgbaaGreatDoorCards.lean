/-
  DERIVED. GIVEN WITH THE SEED: THE CARDS: each row of YtpoocbkligjgbaaGreatDoorRows.lean that lists a variable, with what it lists TIED to the program's text (the seventh form; the later family's looks); each row that meets fmt, with fmt's text TOLD by the authors' own Lean function (tested against real Go, not proved from fmt's source: count such statements apart). THE CARD IS WHAT COUNTS. Prove the row's statement (the work); the ties are given (YtpoocbkligjgbaaGreatDoorTie.lean); close each card by the builder's one call (the guide's Derived/Test/ToyasCard.lean, 'card_holds'). Laid BY PROGRAM, IN A SANDBOX (cutbox-door.mjs). By AI agents, Wed Nov 11 2026. No macro, syntax, notation, axiom, sorry.
-/
import Derived.Test.YtpoocbkligjgbaaGreatDoorRows
import GoSem.ClaimSeven
namespace Go.Proofs.YtpoocbkligjgbaaGreatDoor
namespace Rows

/-- THE TIED CARD OF 'arboretumlaw11.TreePlays'. -/
def treePlaysCard : Claim7 := { stood := { row := treePlaysRow, standIns := [], harness := (true, "e6bc3d9fdf339233e0e1be4d0dc16f97faf8ed9ff102f1150dc864ef2145b388"), looks := true }, kinds := [], alts := [], laidByText := true, laidKinds := [.data, .pinned], laidTests := true, laidLooks := .later }
def TreePlaysCardSaid : Prop := Claim7.holds Tryz.pinned (.plain (OpenSpec.ofChange treePlaysSpec)) treePlaysCard

/-- THE TIED CARD OF 'arboretumlaw11.TreeNone'. -/
def treeNoneCard : Claim7 := { stood := { row := treeNoneRow, standIns := [], harness := (true, "e6bc3d9fdf339233e0e1be4d0dc16f97faf8ed9ff102f1150dc864ef2145b388"), looks := true }, kinds := [], alts := [], laidByText := true, laidKinds := [.data, .pinned], laidTests := true, laidLooks := .later }
def TreeNoneCardSaid : Prop := Claim7.holds Tryz.pinned (.plain (OpenSpec.ofChange treeNoneSpec)) treeNoneCard

/-- THE TIED CARD OF 'arboretumlaw11.TreeKeeps'. -/
def treeKeepsCard : Claim7 := { stood := { row := treeKeepsRow, standIns := [], harness := (true, "e6bc3d9fdf339233e0e1be4d0dc16f97faf8ed9ff102f1150dc864ef2145b388"), looks := true }, kinds := [], alts := [], laidByText := true, laidKinds := [.data, .pinned], laidTests := true, laidLooks := .later }
def TreeKeepsCardSaid : Prop := Claim7.holds Tryz.pinned (.plain (OpenSpec.ofChange treeKeepsSpec)) treeKeepsCard

/-- THE TIED CARD OF 'arboretumlaw11.TreeFull'. -/
def treeFullCard : Claim7 := { stood := { row := treeFullRow, standIns := [], harness := (true, "e6bc3d9fdf339233e0e1be4d0dc16f97faf8ed9ff102f1150dc864ef2145b388"), looks := true }, kinds := [], alts := [], laidByText := true, laidKinds := [.data, .pinned], laidTests := true, laidLooks := .later }
def TreeFullCardSaid : Prop := Claim7.holds Tryz.pinned (.plain (OpenSpec.ofChange treeFullSpec)) treeFullCard

/-- THE TIED CARD OF 'arboretumlaw11.TreeGone'. -/
def treeGoneCard : Claim7 := { stood := { row := treeGoneRow, standIns := [], harness := (true, "e6bc3d9fdf339233e0e1be4d0dc16f97faf8ed9ff102f1150dc864ef2145b388"), looks := true }, kinds := [], alts := [], laidByText := true, laidKinds := [.data, .pinned], laidTests := true, laidLooks := .later }
def TreeGoneCardSaid : Prop := Claim7.holds Tryz.pinned (.plain (OpenSpec.ofChange treeGoneSpec)) treeGoneCard

/-- THE TIED CARD OF 'arboretumlaw11.TreeOrders'. -/
def treeOrdersCard : Claim7 := { stood := { row := treeOrdersRow, standIns := [], harness := (true, "e6bc3d9fdf339233e0e1be4d0dc16f97faf8ed9ff102f1150dc864ef2145b388"), looks := true }, kinds := [], alts := [], laidByText := true, laidKinds := [.data, .pinned], laidTests := true, laidLooks := .later }
def TreeOrdersCardSaid : Prop := Claim7.holds Tryz.pinned (.plain (OpenSpec.ofChange treeOrdersSpec)) treeOrdersCard

/-- THE TIED CARD OF 'arboretumlaw11.TreeHeight'. -/
def treeHeightCard : Claim7 := { stood := { row := treeHeightRow, standIns := [], harness := (true, "e6bc3d9fdf339233e0e1be4d0dc16f97faf8ed9ff102f1150dc864ef2145b388"), looks := true }, kinds := [], alts := [], laidByText := true, laidKinds := [.data, .pinned], laidTests := true, laidLooks := .later }
def TreeHeightCardSaid : Prop := Claim7.holds Tryz.pinned (.plain (OpenSpec.ofChange treeHeightSpec)) treeHeightCard

/-- THE TIED CARD OF 'arboretumlaw11.TreeBad'. -/
def treeBadCard : Claim7 := { stood := { row := treeBadRow, standIns := [], harness := (true, "e6bc3d9fdf339233e0e1be4d0dc16f97faf8ed9ff102f1150dc864ef2145b388"), looks := true }, kinds := [], alts := [], laidByText := true, laidKinds := [.data, .pinned], laidTests := true, laidLooks := .later }
def TreeBadCardSaid : Prop := Claim7.holds Tryz.pinned (.plain (OpenSpec.ofChange treeBadSpec)) treeBadCard

/-- THE SECOND FORM's CARD OF 'arboretumlaw11.TreePlays'. -/
def treePlaysUptoCard : Claim7 := { stood := { row := treePlaysUptoRow, standIns := [], harness := (true, "e6bc3d9fdf339233e0e1be4d0dc16f97faf8ed9ff102f1150dc864ef2145b388"), looks := true }, kinds := [], alts := [], laidByText := true, laidKinds := [.data, .pinned], laidTests := true, laidLooks := .later }
def TreePlaysUptoCardSaid : Prop := Claim7.holds Tryz.pinned (.plain (OpenSpec.upto treePlaysSpec)) treePlaysUptoCard

/-- THE SECOND FORM's CARD OF 'arboretumlaw11.TreeNone'. -/
def treeNoneUptoCard : Claim7 := { stood := { row := treeNoneUptoRow, standIns := [], harness := (true, "e6bc3d9fdf339233e0e1be4d0dc16f97faf8ed9ff102f1150dc864ef2145b388"), looks := true }, kinds := [], alts := [], laidByText := true, laidKinds := [.data, .pinned], laidTests := true, laidLooks := .later }
def TreeNoneUptoCardSaid : Prop := Claim7.holds Tryz.pinned (.plain (OpenSpec.upto treeNoneSpec)) treeNoneUptoCard

/-- THE SECOND FORM's CARD OF 'arboretumlaw11.TreeKeeps'. -/
def treeKeepsUptoCard : Claim7 := { stood := { row := treeKeepsUptoRow, standIns := [], harness := (true, "e6bc3d9fdf339233e0e1be4d0dc16f97faf8ed9ff102f1150dc864ef2145b388"), looks := true }, kinds := [], alts := [], laidByText := true, laidKinds := [.data, .pinned], laidTests := true, laidLooks := .later }
def TreeKeepsUptoCardSaid : Prop := Claim7.holds Tryz.pinned (.plain (OpenSpec.upto treeKeepsSpec)) treeKeepsUptoCard

/-- THE SECOND FORM's CARD OF 'arboretumlaw11.TreeFull'. -/
def treeFullUptoCard : Claim7 := { stood := { row := treeFullUptoRow, standIns := [], harness := (true, "e6bc3d9fdf339233e0e1be4d0dc16f97faf8ed9ff102f1150dc864ef2145b388"), looks := true }, kinds := [], alts := [], laidByText := true, laidKinds := [.data, .pinned], laidTests := true, laidLooks := .later }
def TreeFullUptoCardSaid : Prop := Claim7.holds Tryz.pinned (.plain (OpenSpec.upto treeFullSpec)) treeFullUptoCard

/-- THE SECOND FORM's CARD OF 'arboretumlaw11.TreeGone'. -/
def treeGoneUptoCard : Claim7 := { stood := { row := treeGoneUptoRow, standIns := [], harness := (true, "e6bc3d9fdf339233e0e1be4d0dc16f97faf8ed9ff102f1150dc864ef2145b388"), looks := true }, kinds := [], alts := [], laidByText := true, laidKinds := [.data, .pinned], laidTests := true, laidLooks := .later }
def TreeGoneUptoCardSaid : Prop := Claim7.holds Tryz.pinned (.plain (OpenSpec.upto treeGoneSpec)) treeGoneUptoCard

/-- THE SECOND FORM's CARD OF 'arboretumlaw11.TreeOrders'. -/
def treeOrdersUptoCard : Claim7 := { stood := { row := treeOrdersUptoRow, standIns := [], harness := (true, "e6bc3d9fdf339233e0e1be4d0dc16f97faf8ed9ff102f1150dc864ef2145b388"), looks := true }, kinds := [], alts := [], laidByText := true, laidKinds := [.data, .pinned], laidTests := true, laidLooks := .later }
def TreeOrdersUptoCardSaid : Prop := Claim7.holds Tryz.pinned (.plain (OpenSpec.upto treeOrdersSpec)) treeOrdersUptoCard

/-- THE SECOND FORM's CARD OF 'arboretumlaw11.TreeHeight'. -/
def treeHeightUptoCard : Claim7 := { stood := { row := treeHeightUptoRow, standIns := [], harness := (true, "e6bc3d9fdf339233e0e1be4d0dc16f97faf8ed9ff102f1150dc864ef2145b388"), looks := true }, kinds := [], alts := [], laidByText := true, laidKinds := [.data, .pinned], laidTests := true, laidLooks := .later }
def TreeHeightUptoCardSaid : Prop := Claim7.holds Tryz.pinned (.plain (OpenSpec.upto treeHeightSpec)) treeHeightUptoCard

/-- THE SECOND FORM's CARD OF 'arboretumlaw11.TreeBad'. -/
def treeBadUptoCard : Claim7 := { stood := { row := treeBadUptoRow, standIns := [], harness := (true, "e6bc3d9fdf339233e0e1be4d0dc16f97faf8ed9ff102f1150dc864ef2145b388"), looks := true }, kinds := [], alts := [], laidByText := true, laidKinds := [.data, .pinned], laidTests := true, laidLooks := .later }
def TreeBadUptoCardSaid : Prop := Claim7.holds Tryz.pinned (.plain (OpenSpec.upto treeBadSpec)) treeBadUptoCard
end Rows
end Go.Proofs.YtpoocbkligjgbaaGreatDoor
