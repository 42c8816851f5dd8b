/-
  DERIVED. GIVEN WITH THE SEED: THE CARDS: each row of YtomdjmlfnjikfaaDoorRows.lean that lists a variable, with what it lists TIED to the program's text (the seventh form; the later family's looks); each row that meets fmt, with fmt's text TOLD by the authors' own Lean function (tested against real Go, not proved from fmt's source: count such statements apart). THE CARD IS WHAT COUNTS. Prove the row's statement (the work); the ties are given (YtomdjmlfnjikfaaDoorTie.lean); close each card by the builder's one call (the guide's Derived/Test/ToyasCard.lean, 'card_holds'). Laid BY PROGRAM, IN A SANDBOX (cutbox-door.mjs). By AI agents, Wed Nov 11 2026. No macro, syntax, notation, axiom, sorry.
-/
import Derived.Test.YtomdjmlfnjikfaaDoorRows
import GoSem.ClaimSeven
namespace Go.Proofs.YtomdjmlfnjikfaaDoor
namespace Rows

/-- THE TIED CARD OF 'laws.FnChordOf'. -/
def fnChordOfCard : Claim7 := { stood := { row := fnChordOfRow, standIns := [], harness := (true, "6e6aa0769bb23675444ff92f4cc64da9ef1b41693be52dad2ccaaa52d2b34eb9"), looks := false }, kinds := [], alts := [], laidByText := true, laidKinds := [.data, .wider, .data], laidTests := true, laidLooks := .later }
def FnChordOfCardSaid : Prop := Claim7.holds Tryd.pinned (.plain (OpenSpec.ofChange fnChordOfSpec)) fnChordOfCard

/-- THE TIED CARD OF 'laws.FnNameChord'. -/
def fnNameChordCard : Claim7 := { stood := { row := fnNameChordRow, standIns := [], harness := (true, "6e6aa0769bb23675444ff92f4cc64da9ef1b41693be52dad2ccaaa52d2b34eb9"), looks := false }, kinds := [], alts := [], laidByText := true, laidKinds := [.data, .wider, .data], laidTests := true, laidLooks := .later }
def FnNameChordCardSaid : Prop := Claim7.holds Tryd.pinned (.plain (OpenSpec.ofChange fnNameChordSpec)) fnNameChordCard

/-- THE TIED CARD OF 'laws.FnKeyClasses'. -/
def fnKeyClassesCard : Claim7 := { stood := { row := fnKeyClassesRow, standIns := [], harness := (true, "6e6aa0769bb23675444ff92f4cc64da9ef1b41693be52dad2ccaaa52d2b34eb9"), looks := false }, kinds := [], alts := [], laidByText := true, laidKinds := [.data, .data], laidTests := true, laidLooks := .later }
def FnKeyClassesCardSaid : Prop := Claim7.holds Tryd.pinned (.plain (OpenSpec.ofChange fnKeyClassesSpec)) fnKeyClassesCard

/-- THE TIED CARD OF 'laws.FnMinorMajor'. -/
def fnMinorMajorCard : Claim7 := { stood := { row := fnMinorMajorRow, standIns := [], harness := (true, "6e6aa0769bb23675444ff92f4cc64da9ef1b41693be52dad2ccaaa52d2b34eb9"), looks := false }, kinds := [], alts := [], laidByText := true, laidKinds := [.data, .data, .data], laidTests := true, laidLooks := .later }
def FnMinorMajorCardSaid : Prop := Claim7.holds Tryd.pinned (.plain (OpenSpec.ofChange fnMinorMajorSpec)) fnMinorMajorCard

/-- THE TIED CARD OF 'laws.FnChordTurn'. -/
def fnChordTurnCard : Claim7 := { stood := { row := fnChordTurnRow, standIns := [], harness := (true, "6e6aa0769bb23675444ff92f4cc64da9ef1b41693be52dad2ccaaa52d2b34eb9"), looks := false }, kinds := [], alts := [], laidByText := true, laidKinds := [.data, .wider, .data], laidTests := true, laidLooks := .later }
def FnChordTurnCardSaid : Prop := Claim7.holds Tryd.pinned (.plain (OpenSpec.ofChange fnChordTurnSpec)) fnChordTurnCard

/-- THE TIED CARD OF 'laws.FnChordMoved'. -/
def fnChordMovedCard : Claim7 := { stood := { row := fnChordMovedRow, standIns := [], harness := (true, "6e6aa0769bb23675444ff92f4cc64da9ef1b41693be52dad2ccaaa52d2b34eb9"), looks := false }, kinds := [], alts := [], laidByText := true, laidKinds := [.data, .wider, .data], laidTests := true, laidLooks := .later }
def FnChordMovedCardSaid : Prop := Claim7.holds Tryd.pinned (.plain (OpenSpec.ofChange fnChordMovedSpec)) fnChordMovedCard

/-- THE TIED CARD OF 'laws.FnExactChordOf'. -/
def fnExactChordOfCard : Claim7 := { stood := { row := fnExactChordOfRow, standIns := [], harness := (true, "6e6aa0769bb23675444ff92f4cc64da9ef1b41693be52dad2ccaaa52d2b34eb9"), looks := false }, kinds := [], alts := [], laidByText := true, laidKinds := [.data, .wider, .data], laidTests := true, laidLooks := .later }
def FnExactChordOfCardSaid : Prop := Claim7.holds Tryd.pinned (.plain (OpenSpec.ofChange fnExactChordOfSpec)) fnExactChordOfCard

/-- THE TIED CARD OF 'laws.FnExactNameChord'. -/
def fnExactNameChordCard : Claim7 := { stood := { row := fnExactNameChordRow, standIns := [], harness := (true, "6e6aa0769bb23675444ff92f4cc64da9ef1b41693be52dad2ccaaa52d2b34eb9"), looks := false }, kinds := [], alts := [], laidByText := true, laidKinds := [.data, .wider, .data], laidTests := true, laidLooks := .later }
def FnExactNameChordCardSaid : Prop := Claim7.holds Tryd.pinned (.plain (OpenSpec.ofChange fnExactNameChordSpec)) fnExactNameChordCard

/-- THE TIED CARD OF 'laws.FnExactKeyClasses'. -/
def fnExactKeyClassesCard : Claim7 := { stood := { row := fnExactKeyClassesRow, standIns := [], harness := (true, "6e6aa0769bb23675444ff92f4cc64da9ef1b41693be52dad2ccaaa52d2b34eb9"), looks := false }, kinds := [], alts := [], laidByText := true, laidKinds := [.data, .data], laidTests := true, laidLooks := .later }
def FnExactKeyClassesCardSaid : Prop := Claim7.holds Tryd.pinned (.plain (OpenSpec.ofChange fnExactKeyClassesSpec)) fnExactKeyClassesCard

/-- THE SECOND FORM's CARD OF 'laws.FnChordOf'. -/
def fnChordOfUptoCard : Claim7 := { stood := { row := fnChordOfUptoRow, standIns := [], harness := (true, "6e6aa0769bb23675444ff92f4cc64da9ef1b41693be52dad2ccaaa52d2b34eb9"), looks := false }, kinds := [], alts := [], laidByText := true, laidKinds := [.data, .wider, .data], laidTests := true, laidLooks := .later }
def FnChordOfUptoCardSaid : Prop := Claim7.holds Tryd.pinned (.plain (OpenSpec.upto fnChordOfSpec)) fnChordOfUptoCard

/-- THE SECOND FORM's CARD OF 'laws.FnNameChord'. -/
def fnNameChordUptoCard : Claim7 := { stood := { row := fnNameChordUptoRow, standIns := [], harness := (true, "6e6aa0769bb23675444ff92f4cc64da9ef1b41693be52dad2ccaaa52d2b34eb9"), looks := false }, kinds := [], alts := [], laidByText := true, laidKinds := [.data, .wider, .data], laidTests := true, laidLooks := .later }
def FnNameChordUptoCardSaid : Prop := Claim7.holds Tryd.pinned (.plain (OpenSpec.upto fnNameChordSpec)) fnNameChordUptoCard

/-- THE SECOND FORM's CARD OF 'laws.FnKeyClasses'. -/
def fnKeyClassesUptoCard : Claim7 := { stood := { row := fnKeyClassesUptoRow, standIns := [], harness := (true, "6e6aa0769bb23675444ff92f4cc64da9ef1b41693be52dad2ccaaa52d2b34eb9"), looks := false }, kinds := [], alts := [], laidByText := true, laidKinds := [.data, .data], laidTests := true, laidLooks := .later }
def FnKeyClassesUptoCardSaid : Prop := Claim7.holds Tryd.pinned (.plain (OpenSpec.upto fnKeyClassesSpec)) fnKeyClassesUptoCard

/-- THE SECOND FORM's CARD OF 'laws.FnMinorMajor'. -/
def fnMinorMajorUptoCard : Claim7 := { stood := { row := fnMinorMajorUptoRow, standIns := [], harness := (true, "6e6aa0769bb23675444ff92f4cc64da9ef1b41693be52dad2ccaaa52d2b34eb9"), looks := false }, kinds := [], alts := [], laidByText := true, laidKinds := [.data, .data, .data], laidTests := true, laidLooks := .later }
def FnMinorMajorUptoCardSaid : Prop := Claim7.holds Tryd.pinned (.plain (OpenSpec.upto fnMinorMajorSpec)) fnMinorMajorUptoCard

/-- THE SECOND FORM's CARD OF 'laws.FnChordTurn'. -/
def fnChordTurnUptoCard : Claim7 := { stood := { row := fnChordTurnUptoRow, standIns := [], harness := (true, "6e6aa0769bb23675444ff92f4cc64da9ef1b41693be52dad2ccaaa52d2b34eb9"), looks := false }, kinds := [], alts := [], laidByText := true, laidKinds := [.data, .wider, .data], laidTests := true, laidLooks := .later }
def FnChordTurnUptoCardSaid : Prop := Claim7.holds Tryd.pinned (.plain (OpenSpec.upto fnChordTurnSpec)) fnChordTurnUptoCard

/-- THE SECOND FORM's CARD OF 'laws.FnChordMoved'. -/
def fnChordMovedUptoCard : Claim7 := { stood := { row := fnChordMovedUptoRow, standIns := [], harness := (true, "6e6aa0769bb23675444ff92f4cc64da9ef1b41693be52dad2ccaaa52d2b34eb9"), looks := false }, kinds := [], alts := [], laidByText := true, laidKinds := [.data, .wider, .data], laidTests := true, laidLooks := .later }
def FnChordMovedUptoCardSaid : Prop := Claim7.holds Tryd.pinned (.plain (OpenSpec.upto fnChordMovedSpec)) fnChordMovedUptoCard

/-- THE SECOND FORM's CARD OF 'laws.FnExactChordOf'. -/
def fnExactChordOfUptoCard : Claim7 := { stood := { row := fnExactChordOfUptoRow, standIns := [], harness := (true, "6e6aa0769bb23675444ff92f4cc64da9ef1b41693be52dad2ccaaa52d2b34eb9"), looks := false }, kinds := [], alts := [], laidByText := true, laidKinds := [.data, .wider, .data], laidTests := true, laidLooks := .later }
def FnExactChordOfUptoCardSaid : Prop := Claim7.holds Tryd.pinned (.plain (OpenSpec.upto fnExactChordOfSpec)) fnExactChordOfUptoCard

/-- THE SECOND FORM's CARD OF 'laws.FnExactNameChord'. -/
def fnExactNameChordUptoCard : Claim7 := { stood := { row := fnExactNameChordUptoRow, standIns := [], harness := (true, "6e6aa0769bb23675444ff92f4cc64da9ef1b41693be52dad2ccaaa52d2b34eb9"), looks := false }, kinds := [], alts := [], laidByText := true, laidKinds := [.data, .wider, .data], laidTests := true, laidLooks := .later }
def FnExactNameChordUptoCardSaid : Prop := Claim7.holds Tryd.pinned (.plain (OpenSpec.upto fnExactNameChordSpec)) fnExactNameChordUptoCard

/-- THE SECOND FORM's CARD OF 'laws.FnExactKeyClasses'. -/
def fnExactKeyClassesUptoCard : Claim7 := { stood := { row := fnExactKeyClassesUptoRow, standIns := [], harness := (true, "6e6aa0769bb23675444ff92f4cc64da9ef1b41693be52dad2ccaaa52d2b34eb9"), looks := false }, kinds := [], alts := [], laidByText := true, laidKinds := [.data, .data], laidTests := true, laidLooks := .later }
def FnExactKeyClassesUptoCardSaid : Prop := Claim7.holds Tryd.pinned (.plain (OpenSpec.upto fnExactKeyClassesSpec)) fnExactKeyClassesUptoCard
end Rows
end Go.Proofs.YtomdjmlfnjikfaaDoor
