/-
  DERIVED. GIVEN WITH THE SEED: THE CARDS: each row of YtkdkmhidkaohoaaDoorRows.lean that lists a variable, with what it lists TIED to the program's text (the seventh form; the later family's looks); each row that meets fmt, with fmt's text TOLD by the authors' own Lean function (tested against real Go, not proved from fmt's source: count such statements apart). THE CARD IS WHAT COUNTS. Prove the row's statement (the work); the ties are given (YtkdkmhidkaohoaaDoorTie.lean); close each card by the builder's one call (the guide's Derived/Test/ToyasCard.lean, 'card_holds'). Laid BY PROGRAM, IN A SANDBOX (cutbox-door.mjs). By AI agents, Wed Nov 11 2026. No macro, syntax, notation, axiom, sorry.
-/
import Derived.Test.YtkdkmhidkaohoaaDoorRows
import GoSem.ClaimSeven
namespace Go.Proofs.YtkdkmhidkaohoaaDoor
namespace Rows

/-- THE TIED CARD OF 'laws.FnPitchValid'. -/
def fnPitchValidCard : Claim7 := { stood := { row := fnPitchValidRow, standIns := [], harness := (true, "657ea357435bcbb519bc45c6f9e4e1885d124e1d4d6845993db775513ad2246d"), looks := false }, kinds := [], alts := [], laidByText := true, laidKinds := [.data], laidTests := true, laidLooks := .later }
def FnPitchValidCardSaid : Prop := Claim7.holds Tryd.pinned (.plain (OpenSpec.ofChange fnPitchValidSpec)) fnPitchValidCard

/-- THE TIED CARD OF 'laws.FnPitchPlace'. -/
def fnPitchPlaceCard : Claim7 := { stood := { row := fnPitchPlaceRow, standIns := [], harness := (true, "657ea357435bcbb519bc45c6f9e4e1885d124e1d4d6845993db775513ad2246d"), looks := false }, kinds := [], alts := [], laidByText := true, laidKinds := [.data], laidTests := true, laidLooks := .later }
def FnPitchPlaceCardSaid : Prop := Claim7.holds Tryd.pinned (.plain (OpenSpec.ofChange fnPitchPlaceSpec)) fnPitchPlaceCard

/-- THE TIED CARD OF 'laws.FnPitchText'. -/
def fnPitchTextCard : Claim7 := { stood := { row := fnPitchTextRow, standIns := [], harness := (true, "657ea357435bcbb519bc45c6f9e4e1885d124e1d4d6845993db775513ad2246d"), looks := false }, kinds := [], alts := [], laidByText := true, laidKinds := [.data, .data, .data, .data], laidTests := true, laidLooks := .later }
def FnPitchTextCardSaid : Prop := Claim7.holds Tryd.pinned (.plain (OpenSpec.ofChange fnPitchTextSpec)) fnPitchTextCard

/-- THE TIED CARD OF 'laws.FnReadPitch'. -/
def fnReadPitchCard : Claim7 := { stood := { row := fnReadPitchRow, standIns := [], harness := (true, "657ea357435bcbb519bc45c6f9e4e1885d124e1d4d6845993db775513ad2246d"), looks := false }, kinds := [], alts := [], laidByText := true, laidKinds := [.data, .data, .data, .data], laidTests := true, laidLooks := .later }
def FnReadPitchCardSaid : Prop := Claim7.holds Tryd.pinned (.plain (OpenSpec.ofChange fnReadPitchSpec)) fnReadPitchCard

/-- THE SECOND FORM's CARD OF 'laws.FnPitchValid'. -/
def fnPitchValidUptoCard : Claim7 := { stood := { row := fnPitchValidUptoRow, standIns := [], harness := (true, "657ea357435bcbb519bc45c6f9e4e1885d124e1d4d6845993db775513ad2246d"), looks := false }, kinds := [], alts := [], laidByText := true, laidKinds := [.data], laidTests := true, laidLooks := .later }
def FnPitchValidUptoCardSaid : Prop := Claim7.holds Tryd.pinned (.plain (OpenSpec.upto fnPitchValidSpec)) fnPitchValidUptoCard

/-- THE SECOND FORM's CARD OF 'laws.FnPitchPlace'. -/
def fnPitchPlaceUptoCard : Claim7 := { stood := { row := fnPitchPlaceUptoRow, standIns := [], harness := (true, "657ea357435bcbb519bc45c6f9e4e1885d124e1d4d6845993db775513ad2246d"), looks := false }, kinds := [], alts := [], laidByText := true, laidKinds := [.data], laidTests := true, laidLooks := .later }
def FnPitchPlaceUptoCardSaid : Prop := Claim7.holds Tryd.pinned (.plain (OpenSpec.upto fnPitchPlaceSpec)) fnPitchPlaceUptoCard

/-- THE SECOND FORM's CARD OF 'laws.FnPitchText'. -/
def fnPitchTextUptoCard : Claim7 := { stood := { row := fnPitchTextUptoRow, standIns := [], harness := (true, "657ea357435bcbb519bc45c6f9e4e1885d124e1d4d6845993db775513ad2246d"), looks := false }, kinds := [], alts := [], laidByText := true, laidKinds := [.data, .data, .data, .data], laidTests := true, laidLooks := .later }
def FnPitchTextUptoCardSaid : Prop := Claim7.holds Tryd.pinned (.plain (OpenSpec.upto fnPitchTextSpec)) fnPitchTextUptoCard

/-- THE SECOND FORM's CARD OF 'laws.FnReadPitch'. -/
def fnReadPitchUptoCard : Claim7 := { stood := { row := fnReadPitchUptoRow, standIns := [], harness := (true, "657ea357435bcbb519bc45c6f9e4e1885d124e1d4d6845993db775513ad2246d"), looks := false }, kinds := [], alts := [], laidByText := true, laidKinds := [.data, .data, .data, .data], laidTests := true, laidLooks := .later }
def FnReadPitchUptoCardSaid : Prop := Claim7.holds Tryd.pinned (.plain (OpenSpec.upto fnReadPitchSpec)) fnReadPitchUptoCard
end Rows
end Go.Proofs.YtkdkmhidkaohoaaDoor
