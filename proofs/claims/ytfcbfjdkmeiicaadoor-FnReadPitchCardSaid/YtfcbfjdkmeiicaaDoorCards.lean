/-
  DERIVED. GIVEN WITH THE SEED: THE CARDS: each row of YtfcbfjdkmeiicaaDoorRows.lean that lists a variable, with what it lists TIED to the program's text (the seventh form; the later family's looks); each row that meets fmt, with fmt's text TOLD by the authors' own Lean function (tested against real Go, not proved from fmt's source: count such statements apart). THE CARD IS WHAT COUNTS. Prove the row's statement (the work); the ties are given (YtfcbfjdkmeiicaaDoorTie.lean); close each card by the builder's one call (the guide's Derived/Test/ToyasCard.lean, 'card_holds'). Laid BY PROGRAM, IN A SANDBOX (cutbox-door.mjs). By AI agents, Wed Nov 11 2026. No macro, syntax, notation, axiom, sorry.
-/
import Derived.Test.YtfcbfjdkmeiicaaDoorRows
import GoSem.ClaimSeven
namespace Go.Proofs.YtfcbfjdkmeiicaaDoor
namespace Rows

/-- THE TIED CARD OF 'laws.FnPitchValid'. -/
def fnPitchValidCard : Claim7 := { stood := { row := fnPitchValidRow, standIns := [], harness := (true, "fb3b8c3ca7794fe6f432fa9638d3dab9b929adaea307036e62cea1ee2e5fc83c"), looks := false }, kinds := [], alts := [], laidByText := true, laidKinds := [.data], laidTests := true, laidLooks := .later }
def FnPitchValidCardSaid : Prop := Claim7.holds Tryd.pinned (.plain (OpenSpec.ofChange fnPitchValidSpec)) fnPitchValidCard

/-- THE TIED CARD OF 'laws.FnPitchPlace'. -/
def fnPitchPlaceCard : Claim7 := { stood := { row := fnPitchPlaceRow, standIns := [], harness := (true, "fb3b8c3ca7794fe6f432fa9638d3dab9b929adaea307036e62cea1ee2e5fc83c"), looks := false }, kinds := [], alts := [], laidByText := true, laidKinds := [.data], laidTests := true, laidLooks := .later }
def FnPitchPlaceCardSaid : Prop := Claim7.holds Tryd.pinned (.plain (OpenSpec.ofChange fnPitchPlaceSpec)) fnPitchPlaceCard

/-- THE TIED CARD OF 'laws.FnPitchKey'. -/
def fnPitchKeyCard : Claim7 := { stood := { row := fnPitchKeyRow, standIns := [], harness := (true, "fb3b8c3ca7794fe6f432fa9638d3dab9b929adaea307036e62cea1ee2e5fc83c"), looks := false }, kinds := [], alts := [], laidByText := true, laidKinds := [.data], laidTests := true, laidLooks := .later }
def FnPitchKeyCardSaid : Prop := Claim7.holds Tryd.pinned (.plain (OpenSpec.ofChange fnPitchKeySpec)) fnPitchKeyCard

/-- THE TIED CARD OF 'laws.FnPitchText'. -/
def fnPitchTextCard : Claim7 := { stood := { row := fnPitchTextRow, standIns := [], harness := (true, "fb3b8c3ca7794fe6f432fa9638d3dab9b929adaea307036e62cea1ee2e5fc83c"), looks := false }, kinds := [], alts := [], laidByText := true, laidKinds := [.data, .data, .data, .data], laidTests := true, laidLooks := .later }
def FnPitchTextCardSaid : Prop := Claim7.holds Tryd.pinned (.plain (OpenSpec.ofChange fnPitchTextSpec)) fnPitchTextCard

/-- THE TIED CARD OF 'laws.FnReadPitch'. -/
def fnReadPitchCard : Claim7 := { stood := { row := fnReadPitchRow, standIns := [], harness := (true, "fb3b8c3ca7794fe6f432fa9638d3dab9b929adaea307036e62cea1ee2e5fc83c"), looks := false }, kinds := [], alts := [], laidByText := true, laidKinds := [.data, .data, .data, .data], laidTests := true, laidLooks := .later }
def FnReadPitchCardSaid : Prop := Claim7.holds Tryd.pinned (.plain (OpenSpec.ofChange fnReadPitchSpec)) fnReadPitchCard

/-- THE TIED CARD OF 'laws.FnSpellKey'. -/
def fnSpellKeyCard : Claim7 := { stood := { row := fnSpellKeyRow, standIns := [], harness := (true, "fb3b8c3ca7794fe6f432fa9638d3dab9b929adaea307036e62cea1ee2e5fc83c"), looks := false }, kinds := [], alts := [], laidByText := true, laidKinds := [.data], laidTests := true, laidLooks := .later }
def FnSpellKeyCardSaid : Prop := Claim7.holds Tryd.pinned (.plain (OpenSpec.ofChange fnSpellKeySpec)) fnSpellKeyCard

/-- THE TIED CARD OF 'laws.FnExactPitchKey'. -/
def fnExactPitchKeyCard : Claim7 := { stood := { row := fnExactPitchKeyRow, standIns := [], harness := (true, "fb3b8c3ca7794fe6f432fa9638d3dab9b929adaea307036e62cea1ee2e5fc83c"), looks := false }, kinds := [], alts := [], laidByText := true, laidKinds := [.data], laidTests := true, laidLooks := .later }
def FnExactPitchKeyCardSaid : Prop := Claim7.holds Tryd.pinned (.plain (OpenSpec.ofChange fnExactPitchKeySpec)) fnExactPitchKeyCard

/-- THE TIED CARD OF 'laws.FnExactPitchText'. -/
def fnExactPitchTextCard : Claim7 := { stood := { row := fnExactPitchTextRow, standIns := [], harness := (true, "fb3b8c3ca7794fe6f432fa9638d3dab9b929adaea307036e62cea1ee2e5fc83c"), looks := false }, kinds := [], alts := [], laidByText := true, laidKinds := [.data, .data, .data], laidTests := true, laidLooks := .later }
def FnExactPitchTextCardSaid : Prop := Claim7.holds Tryd.pinned (.plain (OpenSpec.ofChange fnExactPitchTextSpec)) fnExactPitchTextCard

/-- THE TIED CARD OF 'laws.FnExactSpellKey'. -/
def fnExactSpellKeyCard : Claim7 := { stood := { row := fnExactSpellKeyRow, standIns := [], harness := (true, "fb3b8c3ca7794fe6f432fa9638d3dab9b929adaea307036e62cea1ee2e5fc83c"), looks := false }, kinds := [], alts := [], laidByText := true, laidKinds := [.data], laidTests := true, laidLooks := .later }
def FnExactSpellKeyCardSaid : Prop := Claim7.holds Tryd.pinned (.plain (OpenSpec.ofChange fnExactSpellKeySpec)) fnExactSpellKeyCard

/-- THE SECOND FORM's CARD OF 'laws.FnPitchValid'. -/
def fnPitchValidUptoCard : Claim7 := { stood := { row := fnPitchValidUptoRow, standIns := [], harness := (true, "fb3b8c3ca7794fe6f432fa9638d3dab9b929adaea307036e62cea1ee2e5fc83c"), looks := false }, kinds := [], alts := [], laidByText := true, laidKinds := [.data], laidTests := true, laidLooks := .later }
def FnPitchValidUptoCardSaid : Prop := Claim7.holds Tryd.pinned (.plain (OpenSpec.upto fnPitchValidSpec)) fnPitchValidUptoCard

/-- THE SECOND FORM's CARD OF 'laws.FnPitchPlace'. -/
def fnPitchPlaceUptoCard : Claim7 := { stood := { row := fnPitchPlaceUptoRow, standIns := [], harness := (true, "fb3b8c3ca7794fe6f432fa9638d3dab9b929adaea307036e62cea1ee2e5fc83c"), looks := false }, kinds := [], alts := [], laidByText := true, laidKinds := [.data], laidTests := true, laidLooks := .later }
def FnPitchPlaceUptoCardSaid : Prop := Claim7.holds Tryd.pinned (.plain (OpenSpec.upto fnPitchPlaceSpec)) fnPitchPlaceUptoCard

/-- THE SECOND FORM's CARD OF 'laws.FnPitchKey'. -/
def fnPitchKeyUptoCard : Claim7 := { stood := { row := fnPitchKeyUptoRow, standIns := [], harness := (true, "fb3b8c3ca7794fe6f432fa9638d3dab9b929adaea307036e62cea1ee2e5fc83c"), looks := false }, kinds := [], alts := [], laidByText := true, laidKinds := [.data], laidTests := true, laidLooks := .later }
def FnPitchKeyUptoCardSaid : Prop := Claim7.holds Tryd.pinned (.plain (OpenSpec.upto fnPitchKeySpec)) fnPitchKeyUptoCard

/-- THE SECOND FORM's CARD OF 'laws.FnPitchText'. -/
def fnPitchTextUptoCard : Claim7 := { stood := { row := fnPitchTextUptoRow, standIns := [], harness := (true, "fb3b8c3ca7794fe6f432fa9638d3dab9b929adaea307036e62cea1ee2e5fc83c"), looks := false }, kinds := [], alts := [], laidByText := true, laidKinds := [.data, .data, .data, .data], laidTests := true, laidLooks := .later }
def FnPitchTextUptoCardSaid : Prop := Claim7.holds Tryd.pinned (.plain (OpenSpec.upto fnPitchTextSpec)) fnPitchTextUptoCard

/-- THE SECOND FORM's CARD OF 'laws.FnReadPitch'. -/
def fnReadPitchUptoCard : Claim7 := { stood := { row := fnReadPitchUptoRow, standIns := [], harness := (true, "fb3b8c3ca7794fe6f432fa9638d3dab9b929adaea307036e62cea1ee2e5fc83c"), looks := false }, kinds := [], alts := [], laidByText := true, laidKinds := [.data, .data, .data, .data], laidTests := true, laidLooks := .later }
def FnReadPitchUptoCardSaid : Prop := Claim7.holds Tryd.pinned (.plain (OpenSpec.upto fnReadPitchSpec)) fnReadPitchUptoCard

/-- THE SECOND FORM's CARD OF 'laws.FnSpellKey'. -/
def fnSpellKeyUptoCard : Claim7 := { stood := { row := fnSpellKeyUptoRow, standIns := [], harness := (true, "fb3b8c3ca7794fe6f432fa9638d3dab9b929adaea307036e62cea1ee2e5fc83c"), looks := false }, kinds := [], alts := [], laidByText := true, laidKinds := [.data], laidTests := true, laidLooks := .later }
def FnSpellKeyUptoCardSaid : Prop := Claim7.holds Tryd.pinned (.plain (OpenSpec.upto fnSpellKeySpec)) fnSpellKeyUptoCard

/-- THE SECOND FORM's CARD OF 'laws.FnExactPitchKey'. -/
def fnExactPitchKeyUptoCard : Claim7 := { stood := { row := fnExactPitchKeyUptoRow, standIns := [], harness := (true, "fb3b8c3ca7794fe6f432fa9638d3dab9b929adaea307036e62cea1ee2e5fc83c"), looks := false }, kinds := [], alts := [], laidByText := true, laidKinds := [.data], laidTests := true, laidLooks := .later }
def FnExactPitchKeyUptoCardSaid : Prop := Claim7.holds Tryd.pinned (.plain (OpenSpec.upto fnExactPitchKeySpec)) fnExactPitchKeyUptoCard

/-- THE SECOND FORM's CARD OF 'laws.FnExactPitchText'. -/
def fnExactPitchTextUptoCard : Claim7 := { stood := { row := fnExactPitchTextUptoRow, standIns := [], harness := (true, "fb3b8c3ca7794fe6f432fa9638d3dab9b929adaea307036e62cea1ee2e5fc83c"), looks := false }, kinds := [], alts := [], laidByText := true, laidKinds := [.data, .data, .data], laidTests := true, laidLooks := .later }
def FnExactPitchTextUptoCardSaid : Prop := Claim7.holds Tryd.pinned (.plain (OpenSpec.upto fnExactPitchTextSpec)) fnExactPitchTextUptoCard

/-- THE SECOND FORM's CARD OF 'laws.FnExactSpellKey'. -/
def fnExactSpellKeyUptoCard : Claim7 := { stood := { row := fnExactSpellKeyUptoRow, standIns := [], harness := (true, "fb3b8c3ca7794fe6f432fa9638d3dab9b929adaea307036e62cea1ee2e5fc83c"), looks := false }, kinds := [], alts := [], laidByText := true, laidKinds := [.data], laidTests := true, laidLooks := .later }
def FnExactSpellKeyUptoCardSaid : Prop := Claim7.holds Tryd.pinned (.plain (OpenSpec.upto fnExactSpellKeySpec)) fnExactSpellKeyUptoCard
end Rows
end Go.Proofs.YtfcbfjdkmeiicaaDoor
