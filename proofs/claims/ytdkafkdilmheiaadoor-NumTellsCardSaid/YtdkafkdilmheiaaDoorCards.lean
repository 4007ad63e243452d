/-
  DERIVED. GIVEN WITH THE SEED: THE CARDS: each row of YtdkafkdilmheiaaDoorRows.lean that lists a variable, with what it lists TIED to the program's text (the seventh form; the later family's looks); each row that meets fmt, with fmt's text TOLD by the authors' own Lean function (tested against real Go, not proved from fmt's source: count such statements apart). THE CARD IS WHAT COUNTS. Prove the row's statement (the work); the ties are given (YtdkafkdilmheiaaDoorTie.lean); close each card by the builder's one call (the guide's Derived/Test/ToyasCard.lean, 'card_holds'). Laid BY PROGRAM, IN A SANDBOX (cutbox-door.mjs). By AI agents, Wed Nov 11 2026. No macro, syntax, notation, axiom, sorry.
-/
import Derived.Test.YtdkafkdilmheiaaDoorRows
import GoSem.ClaimSeven
namespace Go.Proofs.YtdkafkdilmheiaaDoor
namespace Rows

/-- THE TIED CARD OF 'arboretumlaw1.NumTells'. -/
def numTellsCard : Claim7 := { stood := { row := numTellsRow, standIns := [], harness := (true, "66d7202f4bf7f7a5da5c9db65c7ded33c967b20340d11025e1bcb2fd7072f58e"), looks := false }, kinds := [], alts := [], laidByText := true, laidKinds := [.data, .data, .data], laidTests := true, laidLooks := .later }
def NumTellsCardSaid : Prop := Claim7.holds Tryd.pinned (.plain (OpenSpec.ofChange numTellsSpec)) numTellsCard

/-- THE TIED CARD OF 'arboretumlaw1.NumNone'. -/
def numNoneCard : Claim7 := { stood := { row := numNoneRow, standIns := [], harness := (true, "66d7202f4bf7f7a5da5c9db65c7ded33c967b20340d11025e1bcb2fd7072f58e"), looks := false }, kinds := [], alts := [], laidByText := true, laidKinds := [.data, .data, .data], laidTests := true, laidLooks := .later }
def NumNoneCardSaid : Prop := Claim7.holds Tryd.pinned (.plain (OpenSpec.ofChange numNoneSpec)) numNoneCard

/-- THE TIED CARD OF 'arboretumlaw1.NumBack'. -/
def numBackCard : Claim7 := { stood := { row := numBackRow, standIns := [], harness := (true, "66d7202f4bf7f7a5da5c9db65c7ded33c967b20340d11025e1bcb2fd7072f58e"), looks := false }, kinds := [], alts := [], laidByText := true, laidKinds := [.data, .data, .data], laidTests := true, laidLooks := .later }
def NumBackCardSaid : Prop := Claim7.holds Tryd.pinned (.plain (OpenSpec.ofChange numBackSpec)) numBackCard

/-- THE TIED CARD OF 'arboretumlaw1.NumSums'. -/
def numSumsCard : Claim7 := { stood := { row := numSumsRow, standIns := [], harness := (true, "66d7202f4bf7f7a5da5c9db65c7ded33c967b20340d11025e1bcb2fd7072f58e"), looks := false }, kinds := [], alts := [], laidByText := true, laidKinds := [.data, .data, .data], laidTests := true, laidLooks := .later }
def NumSumsCardSaid : Prop := Claim7.holds Tryd.pinned (.plain (OpenSpec.ofChange numSumsSpec)) numSumsCard

/-- THE TIED CARD OF 'arboretumlaw1.NumDigits'. -/
def numDigitsCard : Claim7 := { stood := { row := numDigitsRow, standIns := [], harness := (true, "66d7202f4bf7f7a5da5c9db65c7ded33c967b20340d11025e1bcb2fd7072f58e"), looks := false }, kinds := [], alts := [], laidByText := true, laidKinds := [.data, .data, .data], laidTests := true, laidLooks := .later }
def NumDigitsCardSaid : Prop := Claim7.holds Tryd.pinned (.plain (OpenSpec.ofChange numDigitsSpec)) numDigitsCard

/-- THE TIED CARD OF 'arboretumlaw1.NumFixes'. -/
def numFixesCard : Claim7 := { stood := { row := numFixesRow, standIns := [], harness := (true, "66d7202f4bf7f7a5da5c9db65c7ded33c967b20340d11025e1bcb2fd7072f58e"), looks := false }, kinds := [], alts := [], laidByText := true, laidKinds := [.data, .data, .data], laidTests := true, laidLooks := .later }
def NumFixesCardSaid : Prop := Claim7.holds Tryd.pinned (.plain (OpenSpec.ofChange numFixesSpec)) numFixesCard

/-- THE TIED CARD OF 'arboretumlaw1.NumFirst'. -/
def numFirstCard : Claim7 := { stood := { row := numFirstRow, standIns := [], harness := (true, "66d7202f4bf7f7a5da5c9db65c7ded33c967b20340d11025e1bcb2fd7072f58e"), looks := false }, kinds := [], alts := [], laidByText := true, laidKinds := [.data, .data, .data], laidTests := true, laidLooks := .later }
def NumFirstCardSaid : Prop := Claim7.holds Tryd.pinned (.plain (OpenSpec.ofChange numFirstSpec)) numFirstCard

/-- THE SECOND FORM's CARD OF 'arboretumlaw1.NumTells'. -/
def numTellsUptoCard : Claim7 := { stood := { row := numTellsUptoRow, standIns := [], harness := (true, "66d7202f4bf7f7a5da5c9db65c7ded33c967b20340d11025e1bcb2fd7072f58e"), looks := false }, kinds := [], alts := [], laidByText := true, laidKinds := [.data, .data, .data], laidTests := true, laidLooks := .later }
def NumTellsUptoCardSaid : Prop := Claim7.holds Tryd.pinned (.plain (OpenSpec.upto numTellsSpec)) numTellsUptoCard

/-- THE SECOND FORM's CARD OF 'arboretumlaw1.NumNone'. -/
def numNoneUptoCard : Claim7 := { stood := { row := numNoneUptoRow, standIns := [], harness := (true, "66d7202f4bf7f7a5da5c9db65c7ded33c967b20340d11025e1bcb2fd7072f58e"), looks := false }, kinds := [], alts := [], laidByText := true, laidKinds := [.data, .data, .data], laidTests := true, laidLooks := .later }
def NumNoneUptoCardSaid : Prop := Claim7.holds Tryd.pinned (.plain (OpenSpec.upto numNoneSpec)) numNoneUptoCard

/-- THE SECOND FORM's CARD OF 'arboretumlaw1.NumBack'. -/
def numBackUptoCard : Claim7 := { stood := { row := numBackUptoRow, standIns := [], harness := (true, "66d7202f4bf7f7a5da5c9db65c7ded33c967b20340d11025e1bcb2fd7072f58e"), looks := false }, kinds := [], alts := [], laidByText := true, laidKinds := [.data, .data, .data], laidTests := true, laidLooks := .later }
def NumBackUptoCardSaid : Prop := Claim7.holds Tryd.pinned (.plain (OpenSpec.upto numBackSpec)) numBackUptoCard

/-- THE SECOND FORM's CARD OF 'arboretumlaw1.NumSums'. -/
def numSumsUptoCard : Claim7 := { stood := { row := numSumsUptoRow, standIns := [], harness := (true, "66d7202f4bf7f7a5da5c9db65c7ded33c967b20340d11025e1bcb2fd7072f58e"), looks := false }, kinds := [], alts := [], laidByText := true, laidKinds := [.data, .data, .data], laidTests := true, laidLooks := .later }
def NumSumsUptoCardSaid : Prop := Claim7.holds Tryd.pinned (.plain (OpenSpec.upto numSumsSpec)) numSumsUptoCard

/-- THE SECOND FORM's CARD OF 'arboretumlaw1.NumDigits'. -/
def numDigitsUptoCard : Claim7 := { stood := { row := numDigitsUptoRow, standIns := [], harness := (true, "66d7202f4bf7f7a5da5c9db65c7ded33c967b20340d11025e1bcb2fd7072f58e"), looks := false }, kinds := [], alts := [], laidByText := true, laidKinds := [.data, .data, .data], laidTests := true, laidLooks := .later }
def NumDigitsUptoCardSaid : Prop := Claim7.holds Tryd.pinned (.plain (OpenSpec.upto numDigitsSpec)) numDigitsUptoCard

/-- THE SECOND FORM's CARD OF 'arboretumlaw1.NumFixes'. -/
def numFixesUptoCard : Claim7 := { stood := { row := numFixesUptoRow, standIns := [], harness := (true, "66d7202f4bf7f7a5da5c9db65c7ded33c967b20340d11025e1bcb2fd7072f58e"), looks := false }, kinds := [], alts := [], laidByText := true, laidKinds := [.data, .data, .data], laidTests := true, laidLooks := .later }
def NumFixesUptoCardSaid : Prop := Claim7.holds Tryd.pinned (.plain (OpenSpec.upto numFixesSpec)) numFixesUptoCard

/-- THE SECOND FORM's CARD OF 'arboretumlaw1.NumFirst'. -/
def numFirstUptoCard : Claim7 := { stood := { row := numFirstUptoRow, standIns := [], harness := (true, "66d7202f4bf7f7a5da5c9db65c7ded33c967b20340d11025e1bcb2fd7072f58e"), looks := false }, kinds := [], alts := [], laidByText := true, laidKinds := [.data, .data, .data], laidTests := true, laidLooks := .later }
def NumFirstUptoCardSaid : Prop := Claim7.holds Tryd.pinned (.plain (OpenSpec.upto numFirstSpec)) numFirstUptoCard
end Rows
end Go.Proofs.YtdkafkdilmheiaaDoor
