/-
  DERIVED. GIVEN WITH THE SEED: THE CARDS: each row of YtccajgdfjinjbaaDoorRows.lean that lists a variable, with what it lists TIED to the program's text (the seventh form; the later family's looks); each row that meets fmt, with fmt's text TOLD by the authors' own Lean function (tested against real Go, not proved from fmt's source: count such statements apart). THE CARD IS WHAT COUNTS. Prove the row's statement (the work); the ties are given (YtccajgdfjinjbaaDoorTie.lean); close each card by the builder's one call (the guide's Derived/Test/ToyasCard.lean, 'card_holds'). Laid BY PROGRAM, IN A SANDBOX (cutbox-door.mjs). By AI agents, Wed Nov 11 2026. No macro, syntax, notation, axiom, sorry.
-/
import Derived.Test.YtccajgdfjinjbaaDoorRows
import GoSem.ClaimSeven
namespace Go.Proofs.YtccajgdfjinjbaaDoor
namespace Rows

/-- THE TIED CARD OF 'arboretumlaw5.MetaTells'. -/
def metaTellsCard : Claim7 := { stood := { row := metaTellsRow, standIns := [], harness := (true, "d48aa41a1fde879c8f068ff09ca76aea14ec58724fc033a2c2054ec20d408607"), looks := false }, kinds := [], alts := [], laidByText := true, laidKinds := [.data, .pinned], laidTests := true, laidLooks := .later }
def MetaTellsCardSaid : Prop := Claim7.holds Tryd.pinned (.plain (OpenSpec.ofChange metaTellsSpec)) metaTellsCard

/-- THE TIED CARD OF 'arboretumlaw5.MetaTorn'. -/
def metaTornCard : Claim7 := { stood := { row := metaTornRow, standIns := [], harness := (true, "d48aa41a1fde879c8f068ff09ca76aea14ec58724fc033a2c2054ec20d408607"), looks := false }, kinds := [], alts := [], laidByText := true, laidKinds := [.data, .pinned], laidTests := true, laidLooks := .later }
def MetaTornCardSaid : Prop := Claim7.holds Tryd.pinned (.plain (OpenSpec.ofChange metaTornSpec)) metaTornCard

/-- THE TIED CARD OF 'arboretumlaw5.MetaNext'. -/
def metaNextCard : Claim7 := { stood := { row := metaNextRow, standIns := [], harness := (true, "d48aa41a1fde879c8f068ff09ca76aea14ec58724fc033a2c2054ec20d408607"), looks := false }, kinds := [], alts := [], laidByText := true, laidKinds := [.data, .pinned], laidTests := true, laidLooks := .later }
def MetaNextCardSaid : Prop := Claim7.holds Tryd.pinned (.plain (OpenSpec.ofChange metaNextSpec)) metaNextCard

/-- THE SECOND FORM's CARD OF 'arboretumlaw5.MetaTells'. -/
def metaTellsUptoCard : Claim7 := { stood := { row := metaTellsUptoRow, standIns := [], harness := (true, "d48aa41a1fde879c8f068ff09ca76aea14ec58724fc033a2c2054ec20d408607"), looks := false }, kinds := [], alts := [], laidByText := true, laidKinds := [.data, .pinned], laidTests := true, laidLooks := .later }
def MetaTellsUptoCardSaid : Prop := Claim7.holds Tryd.pinned (.plain (OpenSpec.upto metaTellsSpec)) metaTellsUptoCard

/-- THE SECOND FORM's CARD OF 'arboretumlaw5.MetaTorn'. -/
def metaTornUptoCard : Claim7 := { stood := { row := metaTornUptoRow, standIns := [], harness := (true, "d48aa41a1fde879c8f068ff09ca76aea14ec58724fc033a2c2054ec20d408607"), looks := false }, kinds := [], alts := [], laidByText := true, laidKinds := [.data, .pinned], laidTests := true, laidLooks := .later }
def MetaTornUptoCardSaid : Prop := Claim7.holds Tryd.pinned (.plain (OpenSpec.upto metaTornSpec)) metaTornUptoCard

/-- THE SECOND FORM's CARD OF 'arboretumlaw5.MetaNext'. -/
def metaNextUptoCard : Claim7 := { stood := { row := metaNextUptoRow, standIns := [], harness := (true, "d48aa41a1fde879c8f068ff09ca76aea14ec58724fc033a2c2054ec20d408607"), looks := false }, kinds := [], alts := [], laidByText := true, laidKinds := [.data, .pinned], laidTests := true, laidLooks := .later }
def MetaNextUptoCardSaid : Prop := Claim7.holds Tryd.pinned (.plain (OpenSpec.upto metaNextSpec)) metaNextUptoCard
end Rows
end Go.Proofs.YtccajgdfjinjbaaDoor
