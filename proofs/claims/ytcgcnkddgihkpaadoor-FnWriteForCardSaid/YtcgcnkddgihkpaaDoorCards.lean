/-
  DERIVED. GIVEN WITH THE SEED: THE CARDS: each row of YtcgcnkddgihkpaaDoorRows.lean that lists a variable, with what it lists TIED to the program's text (the seventh form; the later family's looks); each row that meets fmt, with fmt's text TOLD by the authors' own Lean function (tested against real Go, not proved from fmt's source: count such statements apart). THE CARD IS WHAT COUNTS. Prove the row's statement (the work); the ties are given (YtcgcnkddgihkpaaDoorTie.lean); close each card by the builder's one call (the guide's Derived/Test/ToyasCard.lean, 'card_holds'). Laid BY PROGRAM, IN A SANDBOX (cutbox-door.mjs). By AI agents, Wed Nov 11 2026. No macro, syntax, notation, axiom, sorry.
-/
import Derived.Test.YtcgcnkddgihkpaaDoorRows
import GoSem.ClaimSeven
namespace Go.Proofs.YtcgcnkddgihkpaaDoor
namespace Rows

/-- THE TIED CARD OF 'laws.FnRealAnswer'. -/
def fnRealAnswerCard : Claim7 := { stood := { row := fnRealAnswerRow, standIns := [], harness := (true, "12f8bf1e6a98bffced9494fa3ba18e51065b526c2f6d7f9aa9b5afe777ca4dce"), looks := false }, kinds := [], alts := [], laidByText := true, laidKinds := [.data, .data], laidTests := true, laidLooks := .later }
def FnRealAnswerCardSaid : Prop := Claim7.holds Tryd.pinned (.plain (OpenSpec.ofChange fnRealAnswerSpec)) fnRealAnswerCard

/-- THE TIED CARD OF 'laws.FnTonalAnswer'. -/
def fnTonalAnswerCard : Claim7 := { stood := { row := fnTonalAnswerRow, standIns := [], harness := (true, "12f8bf1e6a98bffced9494fa3ba18e51065b526c2f6d7f9aa9b5afe777ca4dce"), looks := false }, kinds := [], alts := [], laidByText := true, laidKinds := [.data, .data, .data, .data], laidTests := true, laidLooks := .later }
def FnTonalAnswerCardSaid : Prop := Claim7.holds Tryd.pinned (.plain (OpenSpec.ofChange fnTonalAnswerSpec)) fnTonalAnswerCard

/-- THE TIED CARD OF 'laws.FnAnswerHead'. -/
def fnAnswerHeadCard : Claim7 := { stood := { row := fnAnswerHeadRow, standIns := [], harness := (true, "12f8bf1e6a98bffced9494fa3ba18e51065b526c2f6d7f9aa9b5afe777ca4dce"), looks := false }, kinds := [], alts := [], laidByText := true, laidKinds := [.data, .data, .data, .data], laidTests := true, laidLooks := .later }
def FnAnswerHeadCardSaid : Prop := Claim7.holds Tryd.pinned (.plain (OpenSpec.ofChange fnAnswerHeadSpec)) fnAnswerHeadCard

/-- THE TIED CARD OF 'laws.FnAnswerBack'. -/
def fnAnswerBackCard : Claim7 := { stood := { row := fnAnswerBackRow, standIns := [], harness := (true, "12f8bf1e6a98bffced9494fa3ba18e51065b526c2f6d7f9aa9b5afe777ca4dce"), looks := false }, kinds := [], alts := [], laidByText := true, laidKinds := [.data, .data], laidTests := true, laidLooks := .later }
def FnAnswerBackCardSaid : Prop := Claim7.holds Tryd.pinned (.plain (OpenSpec.ofChange fnAnswerBackSpec)) fnAnswerBackCard

/-- THE TIED CARD OF 'laws.FnExactRealAnswer'. -/
def fnExactRealAnswerCard : Claim7 := { stood := { row := fnExactRealAnswerRow, standIns := [], harness := (true, "12f8bf1e6a98bffced9494fa3ba18e51065b526c2f6d7f9aa9b5afe777ca4dce"), looks := false }, kinds := [], alts := [], laidByText := true, laidKinds := [.data, .data], laidTests := true, laidLooks := .later }
def FnExactRealAnswerCardSaid : Prop := Claim7.holds Tryd.pinned (.plain (OpenSpec.ofChange fnExactRealAnswerSpec)) fnExactRealAnswerCard

/-- THE TIED CARD OF 'laws.FnExactTonalAnswer'. -/
def fnExactTonalAnswerCard : Claim7 := { stood := { row := fnExactTonalAnswerRow, standIns := [], harness := (true, "12f8bf1e6a98bffced9494fa3ba18e51065b526c2f6d7f9aa9b5afe777ca4dce"), looks := false }, kinds := [], alts := [], laidByText := true, laidKinds := [.data, .data, .data, .data], laidTests := true, laidLooks := .later }
def FnExactTonalAnswerCardSaid : Prop := Claim7.holds Tryd.pinned (.plain (OpenSpec.ofChange fnExactTonalAnswerSpec)) fnExactTonalAnswerCard

/-- THE TIED CARD OF 'laws.FnExactAnswerHead'. -/
def fnExactAnswerHeadCard : Claim7 := { stood := { row := fnExactAnswerHeadRow, standIns := [], harness := (true, "12f8bf1e6a98bffced9494fa3ba18e51065b526c2f6d7f9aa9b5afe777ca4dce"), looks := false }, kinds := [], alts := [], laidByText := true, laidKinds := [.data, .data, .data, .data], laidTests := true, laidLooks := .later }
def FnExactAnswerHeadCardSaid : Prop := Claim7.holds Tryd.pinned (.plain (OpenSpec.ofChange fnExactAnswerHeadSpec)) fnExactAnswerHeadCard

/-- THE TIED CARD OF 'laws.FnShiftVoice'. -/
def fnShiftVoiceCard : Claim7 := { stood := { row := fnShiftVoiceRow, standIns := [], harness := (true, "12f8bf1e6a98bffced9494fa3ba18e51065b526c2f6d7f9aa9b5afe777ca4dce"), looks := false }, kinds := [], alts := [], laidByText := true, laidKinds := [.data], laidTests := true, laidLooks := .later }
def FnShiftVoiceCardSaid : Prop := Claim7.holds Tryd.pinned (.plain (OpenSpec.ofChange fnShiftVoiceSpec)) fnShiftVoiceCard

/-- THE TIED CARD OF 'laws.FnShiftTwo'. -/
def fnShiftTwoCard : Claim7 := { stood := { row := fnShiftTwoRow, standIns := [], harness := (true, "12f8bf1e6a98bffced9494fa3ba18e51065b526c2f6d7f9aa9b5afe777ca4dce"), looks := false }, kinds := [], alts := [], laidByText := true, laidKinds := [.data], laidTests := true, laidLooks := .later }
def FnShiftTwoCardSaid : Prop := Claim7.holds Tryd.pinned (.plain (OpenSpec.ofChange fnShiftTwoSpec)) fnShiftTwoCard

/-- THE TIED CARD OF 'laws.FnExactShiftVoice'. -/
def fnExactShiftVoiceCard : Claim7 := { stood := { row := fnExactShiftVoiceRow, standIns := [], harness := (true, "12f8bf1e6a98bffced9494fa3ba18e51065b526c2f6d7f9aa9b5afe777ca4dce"), looks := false }, kinds := [], alts := [], laidByText := true, laidKinds := [.data], laidTests := true, laidLooks := .later }
def FnExactShiftVoiceCardSaid : Prop := Claim7.holds Tryd.pinned (.plain (OpenSpec.ofChange fnExactShiftVoiceSpec)) fnExactShiftVoiceCard

/-- THE TIED CARD OF 'laws.FnWriteFor'. -/
def fnWriteForCard : Claim7 := { stood := { row := fnWriteForRow, standIns := [], harness := (true, "12f8bf1e6a98bffced9494fa3ba18e51065b526c2f6d7f9aa9b5afe777ca4dce"), looks := false }, kinds := [], alts := [], laidByText := true, laidKinds := [.data], laidTests := true, laidLooks := .later }
def FnWriteForCardSaid : Prop := Claim7.holds Tryd.pinned (.plain (OpenSpec.ofChange fnWriteForSpec)) fnWriteForCard

/-- THE TIED CARD OF 'laws.FnSoundOf'. -/
def fnSoundOfCard : Claim7 := { stood := { row := fnSoundOfRow, standIns := [], harness := (true, "12f8bf1e6a98bffced9494fa3ba18e51065b526c2f6d7f9aa9b5afe777ca4dce"), looks := false }, kinds := [], alts := [], laidByText := true, laidKinds := [.data], laidTests := true, laidLooks := .later }
def FnSoundOfCardSaid : Prop := Claim7.holds Tryd.pinned (.plain (OpenSpec.ofChange fnSoundOfSpec)) fnSoundOfCard

/-- THE SECOND FORM's CARD OF 'laws.FnRealAnswer'. -/
def fnRealAnswerUptoCard : Claim7 := { stood := { row := fnRealAnswerUptoRow, standIns := [], harness := (true, "12f8bf1e6a98bffced9494fa3ba18e51065b526c2f6d7f9aa9b5afe777ca4dce"), looks := false }, kinds := [], alts := [], laidByText := true, laidKinds := [.data, .data], laidTests := true, laidLooks := .later }
def FnRealAnswerUptoCardSaid : Prop := Claim7.holds Tryd.pinned (.plain (OpenSpec.upto fnRealAnswerSpec)) fnRealAnswerUptoCard

/-- THE SECOND FORM's CARD OF 'laws.FnTonalAnswer'. -/
def fnTonalAnswerUptoCard : Claim7 := { stood := { row := fnTonalAnswerUptoRow, standIns := [], harness := (true, "12f8bf1e6a98bffced9494fa3ba18e51065b526c2f6d7f9aa9b5afe777ca4dce"), looks := false }, kinds := [], alts := [], laidByText := true, laidKinds := [.data, .data, .data, .data], laidTests := true, laidLooks := .later }
def FnTonalAnswerUptoCardSaid : Prop := Claim7.holds Tryd.pinned (.plain (OpenSpec.upto fnTonalAnswerSpec)) fnTonalAnswerUptoCard

/-- THE SECOND FORM's CARD OF 'laws.FnAnswerHead'. -/
def fnAnswerHeadUptoCard : Claim7 := { stood := { row := fnAnswerHeadUptoRow, standIns := [], harness := (true, "12f8bf1e6a98bffced9494fa3ba18e51065b526c2f6d7f9aa9b5afe777ca4dce"), looks := false }, kinds := [], alts := [], laidByText := true, laidKinds := [.data, .data, .data, .data], laidTests := true, laidLooks := .later }
def FnAnswerHeadUptoCardSaid : Prop := Claim7.holds Tryd.pinned (.plain (OpenSpec.upto fnAnswerHeadSpec)) fnAnswerHeadUptoCard

/-- THE SECOND FORM's CARD OF 'laws.FnAnswerBack'. -/
def fnAnswerBackUptoCard : Claim7 := { stood := { row := fnAnswerBackUptoRow, standIns := [], harness := (true, "12f8bf1e6a98bffced9494fa3ba18e51065b526c2f6d7f9aa9b5afe777ca4dce"), looks := false }, kinds := [], alts := [], laidByText := true, laidKinds := [.data, .data], laidTests := true, laidLooks := .later }
def FnAnswerBackUptoCardSaid : Prop := Claim7.holds Tryd.pinned (.plain (OpenSpec.upto fnAnswerBackSpec)) fnAnswerBackUptoCard

/-- THE SECOND FORM's CARD OF 'laws.FnExactRealAnswer'. -/
def fnExactRealAnswerUptoCard : Claim7 := { stood := { row := fnExactRealAnswerUptoRow, standIns := [], harness := (true, "12f8bf1e6a98bffced9494fa3ba18e51065b526c2f6d7f9aa9b5afe777ca4dce"), looks := false }, kinds := [], alts := [], laidByText := true, laidKinds := [.data, .data], laidTests := true, laidLooks := .later }
def FnExactRealAnswerUptoCardSaid : Prop := Claim7.holds Tryd.pinned (.plain (OpenSpec.upto fnExactRealAnswerSpec)) fnExactRealAnswerUptoCard

/-- THE SECOND FORM's CARD OF 'laws.FnExactTonalAnswer'. -/
def fnExactTonalAnswerUptoCard : Claim7 := { stood := { row := fnExactTonalAnswerUptoRow, standIns := [], harness := (true, "12f8bf1e6a98bffced9494fa3ba18e51065b526c2f6d7f9aa9b5afe777ca4dce"), looks := false }, kinds := [], alts := [], laidByText := true, laidKinds := [.data, .data, .data, .data], laidTests := true, laidLooks := .later }
def FnExactTonalAnswerUptoCardSaid : Prop := Claim7.holds Tryd.pinned (.plain (OpenSpec.upto fnExactTonalAnswerSpec)) fnExactTonalAnswerUptoCard

/-- THE SECOND FORM's CARD OF 'laws.FnExactAnswerHead'. -/
def fnExactAnswerHeadUptoCard : Claim7 := { stood := { row := fnExactAnswerHeadUptoRow, standIns := [], harness := (true, "12f8bf1e6a98bffced9494fa3ba18e51065b526c2f6d7f9aa9b5afe777ca4dce"), looks := false }, kinds := [], alts := [], laidByText := true, laidKinds := [.data, .data, .data, .data], laidTests := true, laidLooks := .later }
def FnExactAnswerHeadUptoCardSaid : Prop := Claim7.holds Tryd.pinned (.plain (OpenSpec.upto fnExactAnswerHeadSpec)) fnExactAnswerHeadUptoCard

/-- THE SECOND FORM's CARD OF 'laws.FnShiftVoice'. -/
def fnShiftVoiceUptoCard : Claim7 := { stood := { row := fnShiftVoiceUptoRow, standIns := [], harness := (true, "12f8bf1e6a98bffced9494fa3ba18e51065b526c2f6d7f9aa9b5afe777ca4dce"), looks := false }, kinds := [], alts := [], laidByText := true, laidKinds := [.data], laidTests := true, laidLooks := .later }
def FnShiftVoiceUptoCardSaid : Prop := Claim7.holds Tryd.pinned (.plain (OpenSpec.upto fnShiftVoiceSpec)) fnShiftVoiceUptoCard

/-- THE SECOND FORM's CARD OF 'laws.FnShiftTwo'. -/
def fnShiftTwoUptoCard : Claim7 := { stood := { row := fnShiftTwoUptoRow, standIns := [], harness := (true, "12f8bf1e6a98bffced9494fa3ba18e51065b526c2f6d7f9aa9b5afe777ca4dce"), looks := false }, kinds := [], alts := [], laidByText := true, laidKinds := [.data], laidTests := true, laidLooks := .later }
def FnShiftTwoUptoCardSaid : Prop := Claim7.holds Tryd.pinned (.plain (OpenSpec.upto fnShiftTwoSpec)) fnShiftTwoUptoCard

/-- THE SECOND FORM's CARD OF 'laws.FnExactShiftVoice'. -/
def fnExactShiftVoiceUptoCard : Claim7 := { stood := { row := fnExactShiftVoiceUptoRow, standIns := [], harness := (true, "12f8bf1e6a98bffced9494fa3ba18e51065b526c2f6d7f9aa9b5afe777ca4dce"), looks := false }, kinds := [], alts := [], laidByText := true, laidKinds := [.data], laidTests := true, laidLooks := .later }
def FnExactShiftVoiceUptoCardSaid : Prop := Claim7.holds Tryd.pinned (.plain (OpenSpec.upto fnExactShiftVoiceSpec)) fnExactShiftVoiceUptoCard

/-- THE SECOND FORM's CARD OF 'laws.FnWriteFor'. -/
def fnWriteForUptoCard : Claim7 := { stood := { row := fnWriteForUptoRow, standIns := [], harness := (true, "12f8bf1e6a98bffced9494fa3ba18e51065b526c2f6d7f9aa9b5afe777ca4dce"), looks := false }, kinds := [], alts := [], laidByText := true, laidKinds := [.data], laidTests := true, laidLooks := .later }
def FnWriteForUptoCardSaid : Prop := Claim7.holds Tryd.pinned (.plain (OpenSpec.upto fnWriteForSpec)) fnWriteForUptoCard

/-- THE SECOND FORM's CARD OF 'laws.FnSoundOf'. -/
def fnSoundOfUptoCard : Claim7 := { stood := { row := fnSoundOfUptoRow, standIns := [], harness := (true, "12f8bf1e6a98bffced9494fa3ba18e51065b526c2f6d7f9aa9b5afe777ca4dce"), looks := false }, kinds := [], alts := [], laidByText := true, laidKinds := [.data], laidTests := true, laidLooks := .later }
def FnSoundOfUptoCardSaid : Prop := Claim7.holds Tryd.pinned (.plain (OpenSpec.upto fnSoundOfSpec)) fnSoundOfUptoCard
end Rows
end Go.Proofs.YtcgcnkddgihkpaaDoor
