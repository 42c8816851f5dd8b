/-
  DERIVED. GIVEN WITH THE SEED: THE CARDS: each row of YtafnekfddindjaaDoorRows.lean that lists a variable, with what it lists TIED to the program's text (the seventh form; the later family's looks); each row that meets fmt, with fmt's text TOLD by the authors' own Lean function (tested against real Go, not proved from fmt's source: count such statements apart). THE CARD IS WHAT COUNTS. Prove the row's statement (the work); the ties are given (YtafnekfddindjaaDoorTie.lean); close each card by the builder's one call (the guide's Derived/Test/ToyasCard.lean, 'card_holds'). Laid BY PROGRAM, IN A SANDBOX (cutbox-door.mjs). By AI agents, Wed Nov 11 2026. No macro, syntax, notation, axiom, sorry.
-/
import Derived.Test.YtafnekfddindjaaDoorRows
import GoSem.ClaimSeven
namespace Go.Proofs.YtafnekfddindjaaDoor
namespace Rows

/-- THE TIED CARD OF 'laws.FnInstrumentValid'. -/
def fnInstrumentValidCard : Claim7 := { stood := { row := fnInstrumentValidRow, standIns := [], harness := (true, "9eb6fa1eef568a86b7a7bc54fb44e139f0924e07f7797be19314d59c49a1019c"), looks := false }, kinds := [], alts := [], laidByText := true, laidKinds := [.data], laidTests := true, laidLooks := .later }
def FnInstrumentValidCardSaid : Prop := Claim7.holds Tryd.pinned (.plain (OpenSpec.ofChange fnInstrumentValidSpec)) fnInstrumentValidCard

/-- THE TIED CARD OF 'laws.FnWriteFor'. -/
def fnWriteForCard : Claim7 := { stood := { row := fnWriteForRow, standIns := [], harness := (true, "9eb6fa1eef568a86b7a7bc54fb44e139f0924e07f7797be19314d59c49a1019c"), looks := false }, kinds := [], alts := [], laidByText := true, laidKinds := [.data], laidTests := true, laidLooks := .later }
def FnWriteForCardSaid : Prop := Claim7.holds Tryd.pinned (.plain (OpenSpec.ofChange fnWriteForSpec)) fnWriteForCard

/-- THE TIED CARD OF 'laws.FnSoundOf'. -/
def fnSoundOfCard : Claim7 := { stood := { row := fnSoundOfRow, standIns := [], harness := (true, "9eb6fa1eef568a86b7a7bc54fb44e139f0924e07f7797be19314d59c49a1019c"), looks := false }, kinds := [], alts := [], laidByText := true, laidKinds := [.data], laidTests := true, laidLooks := .later }
def FnSoundOfCardSaid : Prop := Claim7.holds Tryd.pinned (.plain (OpenSpec.ofChange fnSoundOfSpec)) fnSoundOfCard

/-- THE TIED CARD OF 'laws.FnRangeFault'. -/
def fnRangeFaultCard : Claim7 := { stood := { row := fnRangeFaultRow, standIns := [], harness := (true, "9eb6fa1eef568a86b7a7bc54fb44e139f0924e07f7797be19314d59c49a1019c"), looks := false }, kinds := [], alts := [], laidByText := true, laidKinds := [.data], laidTests := true, laidLooks := .later }
def FnRangeFaultCardSaid : Prop := Claim7.holds Tryd.pinned (.plain (OpenSpec.ofChange fnRangeFaultSpec)) fnRangeFaultCard

/-- THE TIED CARD OF 'laws.FnExactInstrumentValid'. -/
def fnExactInstrumentValidCard : Claim7 := { stood := { row := fnExactInstrumentValidRow, standIns := [], harness := (true, "9eb6fa1eef568a86b7a7bc54fb44e139f0924e07f7797be19314d59c49a1019c"), looks := false }, kinds := [], alts := [], laidByText := true, laidKinds := [.data], laidTests := true, laidLooks := .later }
def FnExactInstrumentValidCardSaid : Prop := Claim7.holds Tryd.pinned (.plain (OpenSpec.ofChange fnExactInstrumentValidSpec)) fnExactInstrumentValidCard

/-- THE TIED CARD OF 'laws.FnExactWriteFor'. -/
def fnExactWriteForCard : Claim7 := { stood := { row := fnExactWriteForRow, standIns := [], harness := (true, "9eb6fa1eef568a86b7a7bc54fb44e139f0924e07f7797be19314d59c49a1019c"), looks := false }, kinds := [], alts := [], laidByText := true, laidKinds := [.data], laidTests := true, laidLooks := .later }
def FnExactWriteForCardSaid : Prop := Claim7.holds Tryd.pinned (.plain (OpenSpec.ofChange fnExactWriteForSpec)) fnExactWriteForCard

/-- THE TIED CARD OF 'laws.FnExactSoundOf'. -/
def fnExactSoundOfCard : Claim7 := { stood := { row := fnExactSoundOfRow, standIns := [], harness := (true, "9eb6fa1eef568a86b7a7bc54fb44e139f0924e07f7797be19314d59c49a1019c"), looks := false }, kinds := [], alts := [], laidByText := true, laidKinds := [.data], laidTests := true, laidLooks := .later }
def FnExactSoundOfCardSaid : Prop := Claim7.holds Tryd.pinned (.plain (OpenSpec.ofChange fnExactSoundOfSpec)) fnExactSoundOfCard

/-- THE TIED CARD OF 'laws.FnExactRangeFault'. -/
def fnExactRangeFaultCard : Claim7 := { stood := { row := fnExactRangeFaultRow, standIns := [], harness := (true, "9eb6fa1eef568a86b7a7bc54fb44e139f0924e07f7797be19314d59c49a1019c"), looks := false }, kinds := [], alts := [], laidByText := true, laidKinds := [.data], laidTests := true, laidLooks := .later }
def FnExactRangeFaultCardSaid : Prop := Claim7.holds Tryd.pinned (.plain (OpenSpec.ofChange fnExactRangeFaultSpec)) fnExactRangeFaultCard

/-- THE SECOND FORM's CARD OF 'laws.FnInstrumentValid'. -/
def fnInstrumentValidUptoCard : Claim7 := { stood := { row := fnInstrumentValidUptoRow, standIns := [], harness := (true, "9eb6fa1eef568a86b7a7bc54fb44e139f0924e07f7797be19314d59c49a1019c"), looks := false }, kinds := [], alts := [], laidByText := true, laidKinds := [.data], laidTests := true, laidLooks := .later }
def FnInstrumentValidUptoCardSaid : Prop := Claim7.holds Tryd.pinned (.plain (OpenSpec.upto fnInstrumentValidSpec)) fnInstrumentValidUptoCard

/-- THE SECOND FORM's CARD OF 'laws.FnWriteFor'. -/
def fnWriteForUptoCard : Claim7 := { stood := { row := fnWriteForUptoRow, standIns := [], harness := (true, "9eb6fa1eef568a86b7a7bc54fb44e139f0924e07f7797be19314d59c49a1019c"), looks := false }, kinds := [], alts := [], laidByText := true, laidKinds := [.data], laidTests := true, laidLooks := .later }
def FnWriteForUptoCardSaid : Prop := Claim7.holds Tryd.pinned (.plain (OpenSpec.upto fnWriteForSpec)) fnWriteForUptoCard

/-- THE SECOND FORM's CARD OF 'laws.FnSoundOf'. -/
def fnSoundOfUptoCard : Claim7 := { stood := { row := fnSoundOfUptoRow, standIns := [], harness := (true, "9eb6fa1eef568a86b7a7bc54fb44e139f0924e07f7797be19314d59c49a1019c"), looks := false }, kinds := [], alts := [], laidByText := true, laidKinds := [.data], laidTests := true, laidLooks := .later }
def FnSoundOfUptoCardSaid : Prop := Claim7.holds Tryd.pinned (.plain (OpenSpec.upto fnSoundOfSpec)) fnSoundOfUptoCard

/-- THE SECOND FORM's CARD OF 'laws.FnRangeFault'. -/
def fnRangeFaultUptoCard : Claim7 := { stood := { row := fnRangeFaultUptoRow, standIns := [], harness := (true, "9eb6fa1eef568a86b7a7bc54fb44e139f0924e07f7797be19314d59c49a1019c"), looks := false }, kinds := [], alts := [], laidByText := true, laidKinds := [.data], laidTests := true, laidLooks := .later }
def FnRangeFaultUptoCardSaid : Prop := Claim7.holds Tryd.pinned (.plain (OpenSpec.upto fnRangeFaultSpec)) fnRangeFaultUptoCard

/-- THE SECOND FORM's CARD OF 'laws.FnExactInstrumentValid'. -/
def fnExactInstrumentValidUptoCard : Claim7 := { stood := { row := fnExactInstrumentValidUptoRow, standIns := [], harness := (true, "9eb6fa1eef568a86b7a7bc54fb44e139f0924e07f7797be19314d59c49a1019c"), looks := false }, kinds := [], alts := [], laidByText := true, laidKinds := [.data], laidTests := true, laidLooks := .later }
def FnExactInstrumentValidUptoCardSaid : Prop := Claim7.holds Tryd.pinned (.plain (OpenSpec.upto fnExactInstrumentValidSpec)) fnExactInstrumentValidUptoCard

/-- THE SECOND FORM's CARD OF 'laws.FnExactWriteFor'. -/
def fnExactWriteForUptoCard : Claim7 := { stood := { row := fnExactWriteForUptoRow, standIns := [], harness := (true, "9eb6fa1eef568a86b7a7bc54fb44e139f0924e07f7797be19314d59c49a1019c"), looks := false }, kinds := [], alts := [], laidByText := true, laidKinds := [.data], laidTests := true, laidLooks := .later }
def FnExactWriteForUptoCardSaid : Prop := Claim7.holds Tryd.pinned (.plain (OpenSpec.upto fnExactWriteForSpec)) fnExactWriteForUptoCard

/-- THE SECOND FORM's CARD OF 'laws.FnExactSoundOf'. -/
def fnExactSoundOfUptoCard : Claim7 := { stood := { row := fnExactSoundOfUptoRow, standIns := [], harness := (true, "9eb6fa1eef568a86b7a7bc54fb44e139f0924e07f7797be19314d59c49a1019c"), looks := false }, kinds := [], alts := [], laidByText := true, laidKinds := [.data], laidTests := true, laidLooks := .later }
def FnExactSoundOfUptoCardSaid : Prop := Claim7.holds Tryd.pinned (.plain (OpenSpec.upto fnExactSoundOfSpec)) fnExactSoundOfUptoCard

/-- THE SECOND FORM's CARD OF 'laws.FnExactRangeFault'. -/
def fnExactRangeFaultUptoCard : Claim7 := { stood := { row := fnExactRangeFaultUptoRow, standIns := [], harness := (true, "9eb6fa1eef568a86b7a7bc54fb44e139f0924e07f7797be19314d59c49a1019c"), looks := false }, kinds := [], alts := [], laidByText := true, laidKinds := [.data], laidTests := true, laidLooks := .later }
def FnExactRangeFaultUptoCardSaid : Prop := Claim7.holds Tryd.pinned (.plain (OpenSpec.upto fnExactRangeFaultSpec)) fnExactRangeFaultUptoCard
end Rows
end Go.Proofs.YtafnekfddindjaaDoor
