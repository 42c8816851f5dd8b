/-
  DERIVED. GIVEN WITH THE SEED: THE CARDS: each row of YtjfmbklgkmkgjaaDoorRows.lean that lists a variable, with what it lists TIED to the program's text (the seventh form; the later family's looks); each row that meets fmt, with fmt's text TOLD by the authors' own Lean function (tested against real Go, not proved from fmt's source: count such statements apart). THE CARD IS WHAT COUNTS. Prove the row's statement (the work); the ties are given (YtjfmbklgkmkgjaaDoorTie.lean); close each card by the builder's one call (the guide's Derived/Test/ToyasCard.lean, 'card_holds'). Laid BY PROGRAM, IN A SANDBOX (cutbox-door.mjs). By AI agents, Wed Nov 11 2026. No macro, syntax, notation, axiom, sorry.
-/
import Derived.Test.YtjfmbklgkmkgjaaDoorRows
import GoSem.ClaimSeven
namespace Go.Proofs.YtjfmbklgkmkgjaaDoor
namespace Rows

/-- THE TIED CARD OF 'laws.FnChordOf'. -/
def fnChordOfCard : Claim7 := { stood := { row := fnChordOfRow, standIns := [], harness := (true, "48f8741ab620dceb44ff7fe55060ac4662bf1ffc3a6cefa1b7de2a95e6b0e4ae"), looks := false }, kinds := [], alts := [], laidByText := true, laidKinds := [.data, .wider, .data], laidTests := true, laidLooks := .later }
def FnChordOfCardSaid : Prop := Claim7.holds Tryd.pinned (.plain (OpenSpec.ofChange fnChordOfSpec)) fnChordOfCard

/-- THE TIED CARD OF 'laws.FnChordOn'. -/
def fnChordOnCard : Claim7 := { stood := { row := fnChordOnRow, standIns := [], harness := (true, "48f8741ab620dceb44ff7fe55060ac4662bf1ffc3a6cefa1b7de2a95e6b0e4ae"), looks := false }, kinds := [], alts := [], laidByText := true, laidKinds := [.data, .wider, .data, .data], laidTests := true, laidLooks := .later }
def FnChordOnCardSaid : Prop := Claim7.holds Tryd.pinned (.plain (OpenSpec.ofChange fnChordOnSpec)) fnChordOnCard

/-- THE TIED CARD OF 'laws.FnDegreeOfChord'. -/
def fnDegreeOfChordCard : Claim7 := { stood := { row := fnDegreeOfChordRow, standIns := [], harness := (true, "48f8741ab620dceb44ff7fe55060ac4662bf1ffc3a6cefa1b7de2a95e6b0e4ae"), looks := false }, kinds := [], alts := [], laidByText := true, laidKinds := [.data, .data, .data], laidTests := true, laidLooks := .later }
def FnDegreeOfChordCardSaid : Prop := Claim7.holds Tryd.pinned (.plain (OpenSpec.ofChange fnDegreeOfChordSpec)) fnDegreeOfChordCard

/-- THE TIED CARD OF 'laws.FnProgressionFault'. -/
def fnProgressionFaultCard : Claim7 := { stood := { row := fnProgressionFaultRow, standIns := [], harness := (true, "48f8741ab620dceb44ff7fe55060ac4662bf1ffc3a6cefa1b7de2a95e6b0e4ae"), looks := false }, kinds := [], alts := [], laidByText := true, laidKinds := [.data], laidTests := true, laidLooks := .later }
def FnProgressionFaultCardSaid : Prop := Claim7.holds Tryd.pinned (.plain (OpenSpec.ofChange fnProgressionFaultSpec)) fnProgressionFaultCard

/-- THE TIED CARD OF 'laws.FnCadenceOf'. -/
def fnCadenceOfCard : Claim7 := { stood := { row := fnCadenceOfRow, standIns := [], harness := (true, "48f8741ab620dceb44ff7fe55060ac4662bf1ffc3a6cefa1b7de2a95e6b0e4ae"), looks := false }, kinds := [], alts := [], laidByText := true, laidKinds := [.data], laidTests := true, laidLooks := .later }
def FnCadenceOfCardSaid : Prop := Claim7.holds Tryd.pinned (.plain (OpenSpec.ofChange fnCadenceOfSpec)) fnCadenceOfCard

/-- THE TIED CARD OF 'laws.FnChordTurn'. -/
def fnChordTurnCard : Claim7 := { stood := { row := fnChordTurnRow, standIns := [], harness := (true, "48f8741ab620dceb44ff7fe55060ac4662bf1ffc3a6cefa1b7de2a95e6b0e4ae"), looks := false }, kinds := [], alts := [], laidByText := true, laidKinds := [.data, .wider, .data], laidTests := true, laidLooks := .later }
def FnChordTurnCardSaid : Prop := Claim7.holds Tryd.pinned (.plain (OpenSpec.ofChange fnChordTurnSpec)) fnChordTurnCard

/-- THE TIED CARD OF 'laws.FnChordMoved'. -/
def fnChordMovedCard : Claim7 := { stood := { row := fnChordMovedRow, standIns := [], harness := (true, "48f8741ab620dceb44ff7fe55060ac4662bf1ffc3a6cefa1b7de2a95e6b0e4ae"), looks := false }, kinds := [], alts := [], laidByText := true, laidKinds := [.data, .wider, .data], laidTests := true, laidLooks := .later }
def FnChordMovedCardSaid : Prop := Claim7.holds Tryd.pinned (.plain (OpenSpec.ofChange fnChordMovedSpec)) fnChordMovedCard

/-- THE TIED CARD OF 'laws.FnExactChordOf'. -/
def fnExactChordOfCard : Claim7 := { stood := { row := fnExactChordOfRow, standIns := [], harness := (true, "48f8741ab620dceb44ff7fe55060ac4662bf1ffc3a6cefa1b7de2a95e6b0e4ae"), looks := false }, kinds := [], alts := [], laidByText := true, laidKinds := [.data, .wider, .data], laidTests := true, laidLooks := .later }
def FnExactChordOfCardSaid : Prop := Claim7.holds Tryd.pinned (.plain (OpenSpec.ofChange fnExactChordOfSpec)) fnExactChordOfCard

/-- THE TIED CARD OF 'laws.FnExactChordOn'. -/
def fnExactChordOnCard : Claim7 := { stood := { row := fnExactChordOnRow, standIns := [], harness := (true, "48f8741ab620dceb44ff7fe55060ac4662bf1ffc3a6cefa1b7de2a95e6b0e4ae"), looks := false }, kinds := [], alts := [], laidByText := true, laidKinds := [.data], laidTests := true, laidLooks := .later }
def FnExactChordOnCardSaid : Prop := Claim7.holds Tryd.pinned (.plain (OpenSpec.ofChange fnExactChordOnSpec)) fnExactChordOnCard

/-- THE TIED CARD OF 'laws.FnExactDegreeOfChord'. -/
def fnExactDegreeOfChordCard : Claim7 := { stood := { row := fnExactDegreeOfChordRow, standIns := [], harness := (true, "48f8741ab620dceb44ff7fe55060ac4662bf1ffc3a6cefa1b7de2a95e6b0e4ae"), looks := false }, kinds := [], alts := [], laidByText := true, laidKinds := [.data], laidTests := true, laidLooks := .later }
def FnExactDegreeOfChordCardSaid : Prop := Claim7.holds Tryd.pinned (.plain (OpenSpec.ofChange fnExactDegreeOfChordSpec)) fnExactDegreeOfChordCard

/-- THE SECOND FORM's CARD OF 'laws.FnChordOf'. -/
def fnChordOfUptoCard : Claim7 := { stood := { row := fnChordOfUptoRow, standIns := [], harness := (true, "48f8741ab620dceb44ff7fe55060ac4662bf1ffc3a6cefa1b7de2a95e6b0e4ae"), looks := false }, kinds := [], alts := [], laidByText := true, laidKinds := [.data, .wider, .data], laidTests := true, laidLooks := .later }
def FnChordOfUptoCardSaid : Prop := Claim7.holds Tryd.pinned (.plain (OpenSpec.upto fnChordOfSpec)) fnChordOfUptoCard

/-- THE SECOND FORM's CARD OF 'laws.FnChordOn'. -/
def fnChordOnUptoCard : Claim7 := { stood := { row := fnChordOnUptoRow, standIns := [], harness := (true, "48f8741ab620dceb44ff7fe55060ac4662bf1ffc3a6cefa1b7de2a95e6b0e4ae"), looks := false }, kinds := [], alts := [], laidByText := true, laidKinds := [.data, .wider, .data, .data], laidTests := true, laidLooks := .later }
def FnChordOnUptoCardSaid : Prop := Claim7.holds Tryd.pinned (.plain (OpenSpec.upto fnChordOnSpec)) fnChordOnUptoCard

/-- THE SECOND FORM's CARD OF 'laws.FnDegreeOfChord'. -/
def fnDegreeOfChordUptoCard : Claim7 := { stood := { row := fnDegreeOfChordUptoRow, standIns := [], harness := (true, "48f8741ab620dceb44ff7fe55060ac4662bf1ffc3a6cefa1b7de2a95e6b0e4ae"), looks := false }, kinds := [], alts := [], laidByText := true, laidKinds := [.data, .data, .data], laidTests := true, laidLooks := .later }
def FnDegreeOfChordUptoCardSaid : Prop := Claim7.holds Tryd.pinned (.plain (OpenSpec.upto fnDegreeOfChordSpec)) fnDegreeOfChordUptoCard

/-- THE SECOND FORM's CARD OF 'laws.FnProgressionFault'. -/
def fnProgressionFaultUptoCard : Claim7 := { stood := { row := fnProgressionFaultUptoRow, standIns := [], harness := (true, "48f8741ab620dceb44ff7fe55060ac4662bf1ffc3a6cefa1b7de2a95e6b0e4ae"), looks := false }, kinds := [], alts := [], laidByText := true, laidKinds := [.data], laidTests := true, laidLooks := .later }
def FnProgressionFaultUptoCardSaid : Prop := Claim7.holds Tryd.pinned (.plain (OpenSpec.upto fnProgressionFaultSpec)) fnProgressionFaultUptoCard

/-- THE SECOND FORM's CARD OF 'laws.FnCadenceOf'. -/
def fnCadenceOfUptoCard : Claim7 := { stood := { row := fnCadenceOfUptoRow, standIns := [], harness := (true, "48f8741ab620dceb44ff7fe55060ac4662bf1ffc3a6cefa1b7de2a95e6b0e4ae"), looks := false }, kinds := [], alts := [], laidByText := true, laidKinds := [.data], laidTests := true, laidLooks := .later }
def FnCadenceOfUptoCardSaid : Prop := Claim7.holds Tryd.pinned (.plain (OpenSpec.upto fnCadenceOfSpec)) fnCadenceOfUptoCard

/-- THE SECOND FORM's CARD OF 'laws.FnChordTurn'. -/
def fnChordTurnUptoCard : Claim7 := { stood := { row := fnChordTurnUptoRow, standIns := [], harness := (true, "48f8741ab620dceb44ff7fe55060ac4662bf1ffc3a6cefa1b7de2a95e6b0e4ae"), looks := false }, kinds := [], alts := [], laidByText := true, laidKinds := [.data, .wider, .data], laidTests := true, laidLooks := .later }
def FnChordTurnUptoCardSaid : Prop := Claim7.holds Tryd.pinned (.plain (OpenSpec.upto fnChordTurnSpec)) fnChordTurnUptoCard

/-- THE SECOND FORM's CARD OF 'laws.FnChordMoved'. -/
def fnChordMovedUptoCard : Claim7 := { stood := { row := fnChordMovedUptoRow, standIns := [], harness := (true, "48f8741ab620dceb44ff7fe55060ac4662bf1ffc3a6cefa1b7de2a95e6b0e4ae"), looks := false }, kinds := [], alts := [], laidByText := true, laidKinds := [.data, .wider, .data], laidTests := true, laidLooks := .later }
def FnChordMovedUptoCardSaid : Prop := Claim7.holds Tryd.pinned (.plain (OpenSpec.upto fnChordMovedSpec)) fnChordMovedUptoCard

/-- THE SECOND FORM's CARD OF 'laws.FnExactChordOf'. -/
def fnExactChordOfUptoCard : Claim7 := { stood := { row := fnExactChordOfUptoRow, standIns := [], harness := (true, "48f8741ab620dceb44ff7fe55060ac4662bf1ffc3a6cefa1b7de2a95e6b0e4ae"), looks := false }, kinds := [], alts := [], laidByText := true, laidKinds := [.data, .wider, .data], laidTests := true, laidLooks := .later }
def FnExactChordOfUptoCardSaid : Prop := Claim7.holds Tryd.pinned (.plain (OpenSpec.upto fnExactChordOfSpec)) fnExactChordOfUptoCard

/-- THE SECOND FORM's CARD OF 'laws.FnExactChordOn'. -/
def fnExactChordOnUptoCard : Claim7 := { stood := { row := fnExactChordOnUptoRow, standIns := [], harness := (true, "48f8741ab620dceb44ff7fe55060ac4662bf1ffc3a6cefa1b7de2a95e6b0e4ae"), looks := false }, kinds := [], alts := [], laidByText := true, laidKinds := [.data], laidTests := true, laidLooks := .later }
def FnExactChordOnUptoCardSaid : Prop := Claim7.holds Tryd.pinned (.plain (OpenSpec.upto fnExactChordOnSpec)) fnExactChordOnUptoCard

/-- THE SECOND FORM's CARD OF 'laws.FnExactDegreeOfChord'. -/
def fnExactDegreeOfChordUptoCard : Claim7 := { stood := { row := fnExactDegreeOfChordUptoRow, standIns := [], harness := (true, "48f8741ab620dceb44ff7fe55060ac4662bf1ffc3a6cefa1b7de2a95e6b0e4ae"), looks := false }, kinds := [], alts := [], laidByText := true, laidKinds := [.data], laidTests := true, laidLooks := .later }
def FnExactDegreeOfChordUptoCardSaid : Prop := Claim7.holds Tryd.pinned (.plain (OpenSpec.upto fnExactDegreeOfChordSpec)) fnExactDegreeOfChordUptoCard
end Rows
end Go.Proofs.YtjfmbklgkmkgjaaDoor
