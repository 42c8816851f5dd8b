/-
  DERIVED. GIVEN WITH THE SEED: THE CARDS: each row of YtfdglkiehkilnaaDoorRows.lean that lists a variable, with what it lists TIED to the program's text (the seventh form; the later family's looks); each row that meets fmt, with fmt's text TOLD by the authors' own Lean function (tested against real Go, not proved from fmt's source: count such statements apart). THE CARD IS WHAT COUNTS. Prove the row's statement (the work); the ties are given (YtfdglkiehkilnaaDoorTie.lean); close each card by the builder's one call (the guide's Derived/Test/ToyasCard.lean, 'card_holds'). Laid BY PROGRAM, IN A SANDBOX (cutbox-door.mjs). By AI agents, Wed Nov 11 2026. No macro, syntax, notation, axiom, sorry.
-/
import Derived.Test.YtfdglkiehkilnaaDoorRows
import GoSem.ClaimSeven
namespace Go.Proofs.YtfdglkiehkilnaaDoor
namespace Rows

/-- THE TIED CARD OF 'laws.FnCantusValid'. -/
def fnCantusValidCard : Claim7 := { stood := { row := fnCantusValidRow, standIns := [], harness := (true, "169adf4ec52b5f832cb8a6db5b576f2443a06057a2a5988e881c94bf56c9d5b0"), looks := false }, kinds := [], alts := [], laidByText := true, laidKinds := [.data, .data], laidTests := true, laidLooks := .later }
def FnCantusValidCardSaid : Prop := Claim7.holds Tryd.pinned (.plain (OpenSpec.ofChange fnCantusValidSpec)) fnCantusValidCard

/-- THE TIED CARD OF 'laws.FnLineFaults'. -/
def fnLineFaultsCard : Claim7 := { stood := { row := fnLineFaultsRow, standIns := [], harness := (true, "169adf4ec52b5f832cb8a6db5b576f2443a06057a2a5988e881c94bf56c9d5b0"), looks := false }, kinds := [], alts := [], laidByText := true, laidKinds := [.data, .data], laidTests := true, laidLooks := .later }
def FnLineFaultsCardSaid : Prop := Claim7.holds Tryd.pinned (.plain (OpenSpec.ofChange fnLineFaultsSpec)) fnLineFaultsCard

/-- THE TIED CARD OF 'laws.FnLineGood'. -/
def fnLineGoodCard : Claim7 := { stood := { row := fnLineGoodRow, standIns := [], harness := (true, "169adf4ec52b5f832cb8a6db5b576f2443a06057a2a5988e881c94bf56c9d5b0"), looks := false }, kinds := [], alts := [], laidByText := true, laidKinds := [.data, .data], laidTests := true, laidLooks := .later }
def FnLineGoodCardSaid : Prop := Claim7.holds Tryd.pinned (.plain (OpenSpec.ofChange fnLineGoodSpec)) fnLineGoodCard

/-- THE TIED CARD OF 'laws.FnExactCantusValid'. -/
def fnExactCantusValidCard : Claim7 := { stood := { row := fnExactCantusValidRow, standIns := [], harness := (true, "169adf4ec52b5f832cb8a6db5b576f2443a06057a2a5988e881c94bf56c9d5b0"), looks := false }, kinds := [], alts := [], laidByText := true, laidKinds := [.data], laidTests := true, laidLooks := .later }
def FnExactCantusValidCardSaid : Prop := Claim7.holds Tryd.pinned (.plain (OpenSpec.ofChange fnExactCantusValidSpec)) fnExactCantusValidCard

/-- THE TIED CARD OF 'laws.FnExactLineFaults'. -/
def fnExactLineFaultsCard : Claim7 := { stood := { row := fnExactLineFaultsRow, standIns := [], harness := (true, "169adf4ec52b5f832cb8a6db5b576f2443a06057a2a5988e881c94bf56c9d5b0"), looks := false }, kinds := [], alts := [], laidByText := true, laidKinds := [.data, .data], laidTests := true, laidLooks := .later }
def FnExactLineFaultsCardSaid : Prop := Claim7.holds Tryd.pinned (.plain (OpenSpec.ofChange fnExactLineFaultsSpec)) fnExactLineFaultsCard

/-- THE TIED CARD OF 'laws.FnExactLineGood'. -/
def fnExactLineGoodCard : Claim7 := { stood := { row := fnExactLineGoodRow, standIns := [], harness := (true, "169adf4ec52b5f832cb8a6db5b576f2443a06057a2a5988e881c94bf56c9d5b0"), looks := false }, kinds := [], alts := [], laidByText := true, laidKinds := [.data, .data], laidTests := true, laidLooks := .later }
def FnExactLineGoodCardSaid : Prop := Claim7.holds Tryd.pinned (.plain (OpenSpec.ofChange fnExactLineGoodSpec)) fnExactLineGoodCard

/-- THE TIED CARD OF 'laws.FnPartsFaults'. -/
def fnPartsFaultsCard : Claim7 := { stood := { row := fnPartsFaultsRow, standIns := [], harness := (true, "169adf4ec52b5f832cb8a6db5b576f2443a06057a2a5988e881c94bf56c9d5b0"), looks := false }, kinds := [], alts := [], laidByText := true, laidKinds := [.data, .data], laidTests := true, laidLooks := .later }
def FnPartsFaultsCardSaid : Prop := Claim7.holds Tryd.pinned (.plain (OpenSpec.ofChange fnPartsFaultsSpec)) fnPartsFaultsCard

/-- THE TIED CARD OF 'laws.FnExactPartsFaults'. -/
def fnExactPartsFaultsCard : Claim7 := { stood := { row := fnExactPartsFaultsRow, standIns := [], harness := (true, "169adf4ec52b5f832cb8a6db5b576f2443a06057a2a5988e881c94bf56c9d5b0"), looks := false }, kinds := [], alts := [], laidByText := true, laidKinds := [.data, .data], laidTests := true, laidLooks := .later }
def FnExactPartsFaultsCardSaid : Prop := Claim7.holds Tryd.pinned (.plain (OpenSpec.ofChange fnExactPartsFaultsSpec)) fnExactPartsFaultsCard

/-- THE TIED CARD OF 'laws.FnRealizeBass'. -/
def fnRealizeBassCard : Claim7 := { stood := { row := fnRealizeBassRow, standIns := [], harness := (true, "169adf4ec52b5f832cb8a6db5b576f2443a06057a2a5988e881c94bf56c9d5b0"), looks := false }, kinds := [], alts := [], laidByText := true, laidKinds := [.data, .data, .data], laidTests := true, laidLooks := .later }
def FnRealizeBassCardSaid : Prop := Claim7.holds Tryd.pinned (.plain (OpenSpec.ofChange fnRealizeBassSpec)) fnRealizeBassCard

/-- THE SECOND FORM's CARD OF 'laws.FnCantusValid'. -/
def fnCantusValidUptoCard : Claim7 := { stood := { row := fnCantusValidUptoRow, standIns := [], harness := (true, "169adf4ec52b5f832cb8a6db5b576f2443a06057a2a5988e881c94bf56c9d5b0"), looks := false }, kinds := [], alts := [], laidByText := true, laidKinds := [.data, .data], laidTests := true, laidLooks := .later }
def FnCantusValidUptoCardSaid : Prop := Claim7.holds Tryd.pinned (.plain (OpenSpec.upto fnCantusValidSpec)) fnCantusValidUptoCard

/-- THE SECOND FORM's CARD OF 'laws.FnLineFaults'. -/
def fnLineFaultsUptoCard : Claim7 := { stood := { row := fnLineFaultsUptoRow, standIns := [], harness := (true, "169adf4ec52b5f832cb8a6db5b576f2443a06057a2a5988e881c94bf56c9d5b0"), looks := false }, kinds := [], alts := [], laidByText := true, laidKinds := [.data, .data], laidTests := true, laidLooks := .later }
def FnLineFaultsUptoCardSaid : Prop := Claim7.holds Tryd.pinned (.plain (OpenSpec.upto fnLineFaultsSpec)) fnLineFaultsUptoCard

/-- THE SECOND FORM's CARD OF 'laws.FnLineGood'. -/
def fnLineGoodUptoCard : Claim7 := { stood := { row := fnLineGoodUptoRow, standIns := [], harness := (true, "169adf4ec52b5f832cb8a6db5b576f2443a06057a2a5988e881c94bf56c9d5b0"), looks := false }, kinds := [], alts := [], laidByText := true, laidKinds := [.data, .data], laidTests := true, laidLooks := .later }
def FnLineGoodUptoCardSaid : Prop := Claim7.holds Tryd.pinned (.plain (OpenSpec.upto fnLineGoodSpec)) fnLineGoodUptoCard

/-- THE SECOND FORM's CARD OF 'laws.FnExactCantusValid'. -/
def fnExactCantusValidUptoCard : Claim7 := { stood := { row := fnExactCantusValidUptoRow, standIns := [], harness := (true, "169adf4ec52b5f832cb8a6db5b576f2443a06057a2a5988e881c94bf56c9d5b0"), looks := false }, kinds := [], alts := [], laidByText := true, laidKinds := [.data], laidTests := true, laidLooks := .later }
def FnExactCantusValidUptoCardSaid : Prop := Claim7.holds Tryd.pinned (.plain (OpenSpec.upto fnExactCantusValidSpec)) fnExactCantusValidUptoCard

/-- THE SECOND FORM's CARD OF 'laws.FnExactLineFaults'. -/
def fnExactLineFaultsUptoCard : Claim7 := { stood := { row := fnExactLineFaultsUptoRow, standIns := [], harness := (true, "169adf4ec52b5f832cb8a6db5b576f2443a06057a2a5988e881c94bf56c9d5b0"), looks := false }, kinds := [], alts := [], laidByText := true, laidKinds := [.data, .data], laidTests := true, laidLooks := .later }
def FnExactLineFaultsUptoCardSaid : Prop := Claim7.holds Tryd.pinned (.plain (OpenSpec.upto fnExactLineFaultsSpec)) fnExactLineFaultsUptoCard

/-- THE SECOND FORM's CARD OF 'laws.FnExactLineGood'. -/
def fnExactLineGoodUptoCard : Claim7 := { stood := { row := fnExactLineGoodUptoRow, standIns := [], harness := (true, "169adf4ec52b5f832cb8a6db5b576f2443a06057a2a5988e881c94bf56c9d5b0"), looks := false }, kinds := [], alts := [], laidByText := true, laidKinds := [.data, .data], laidTests := true, laidLooks := .later }
def FnExactLineGoodUptoCardSaid : Prop := Claim7.holds Tryd.pinned (.plain (OpenSpec.upto fnExactLineGoodSpec)) fnExactLineGoodUptoCard

/-- THE SECOND FORM's CARD OF 'laws.FnPartsFaults'. -/
def fnPartsFaultsUptoCard : Claim7 := { stood := { row := fnPartsFaultsUptoRow, standIns := [], harness := (true, "169adf4ec52b5f832cb8a6db5b576f2443a06057a2a5988e881c94bf56c9d5b0"), looks := false }, kinds := [], alts := [], laidByText := true, laidKinds := [.data, .data], laidTests := true, laidLooks := .later }
def FnPartsFaultsUptoCardSaid : Prop := Claim7.holds Tryd.pinned (.plain (OpenSpec.upto fnPartsFaultsSpec)) fnPartsFaultsUptoCard

/-- THE SECOND FORM's CARD OF 'laws.FnExactPartsFaults'. -/
def fnExactPartsFaultsUptoCard : Claim7 := { stood := { row := fnExactPartsFaultsUptoRow, standIns := [], harness := (true, "169adf4ec52b5f832cb8a6db5b576f2443a06057a2a5988e881c94bf56c9d5b0"), looks := false }, kinds := [], alts := [], laidByText := true, laidKinds := [.data, .data], laidTests := true, laidLooks := .later }
def FnExactPartsFaultsUptoCardSaid : Prop := Claim7.holds Tryd.pinned (.plain (OpenSpec.upto fnExactPartsFaultsSpec)) fnExactPartsFaultsUptoCard

/-- THE SECOND FORM's CARD OF 'laws.FnRealizeBass'. -/
def fnRealizeBassUptoCard : Claim7 := { stood := { row := fnRealizeBassUptoRow, standIns := [], harness := (true, "169adf4ec52b5f832cb8a6db5b576f2443a06057a2a5988e881c94bf56c9d5b0"), looks := false }, kinds := [], alts := [], laidByText := true, laidKinds := [.data, .data, .data], laidTests := true, laidLooks := .later }
def FnRealizeBassUptoCardSaid : Prop := Claim7.holds Tryd.pinned (.plain (OpenSpec.upto fnRealizeBassSpec)) fnRealizeBassUptoCard
end Rows
end Go.Proofs.YtfdglkiehkilnaaDoor
