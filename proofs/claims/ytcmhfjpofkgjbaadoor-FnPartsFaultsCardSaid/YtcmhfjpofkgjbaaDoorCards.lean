/-
  DERIVED. GIVEN WITH THE SEED: THE CARDS: each row of YtcmhfjpofkgjbaaDoorRows.lean that lists a variable, with what it lists TIED to the program's text (the seventh form; the later family's looks); each row that meets fmt, with fmt's text TOLD by the authors' own Lean function (tested against real Go, not proved from fmt's source: count such statements apart). THE CARD IS WHAT COUNTS. Prove the row's statement (the work); the ties are given (YtcmhfjpofkgjbaaDoorTie.lean); close each card by the builder's one call (the guide's Derived/Test/ToyasCard.lean, 'card_holds'). Laid BY PROGRAM, IN A SANDBOX (cutbox-door.mjs). By AI agents, Wed Nov 11 2026. No macro, syntax, notation, axiom, sorry.
-/
import Derived.Test.YtcmhfjpofkgjbaaDoorRows
import GoSem.ClaimSeven
namespace Go.Proofs.YtcmhfjpofkgjbaaDoor
namespace Rows

/-- THE TIED CARD OF 'laws.FnStackFault'. -/
def fnStackFaultCard : Claim7 := { stood := { row := fnStackFaultRow, standIns := [], harness := (true, "9c88ba25f55bf78d69f2a81e52485b44d0a082152f5428791dd02603de5e5283"), looks := false }, kinds := [], alts := [], laidByText := true, laidKinds := [.data, .data], laidTests := true, laidLooks := .later }
def FnStackFaultCardSaid : Prop := Claim7.holds Tryd.pinned (.plain (OpenSpec.ofChange fnStackFaultSpec)) fnStackFaultCard

/-- THE TIED CARD OF 'laws.FnMoveFault'. -/
def fnMoveFaultCard : Claim7 := { stood := { row := fnMoveFaultRow, standIns := [], harness := (true, "9c88ba25f55bf78d69f2a81e52485b44d0a082152f5428791dd02603de5e5283"), looks := false }, kinds := [], alts := [], laidByText := true, laidKinds := [.data], laidTests := true, laidLooks := .later }
def FnMoveFaultCardSaid : Prop := Claim7.holds Tryd.pinned (.plain (OpenSpec.ofChange fnMoveFaultSpec)) fnMoveFaultCard

/-- THE TIED CARD OF 'laws.FnPartsFaults'. -/
def fnPartsFaultsCard : Claim7 := { stood := { row := fnPartsFaultsRow, standIns := [], harness := (true, "9c88ba25f55bf78d69f2a81e52485b44d0a082152f5428791dd02603de5e5283"), looks := false }, kinds := [], alts := [], laidByText := true, laidKinds := [.data, .data], laidTests := true, laidLooks := .later }
def FnPartsFaultsCardSaid : Prop := Claim7.holds Tryd.pinned (.plain (OpenSpec.ofChange fnPartsFaultsSpec)) fnPartsFaultsCard

/-- THE TIED CARD OF 'laws.FnExactStackFault'. -/
def fnExactStackFaultCard : Claim7 := { stood := { row := fnExactStackFaultRow, standIns := [], harness := (true, "9c88ba25f55bf78d69f2a81e52485b44d0a082152f5428791dd02603de5e5283"), looks := false }, kinds := [], alts := [], laidByText := true, laidKinds := [.data, .data], laidTests := true, laidLooks := .later }
def FnExactStackFaultCardSaid : Prop := Claim7.holds Tryd.pinned (.plain (OpenSpec.ofChange fnExactStackFaultSpec)) fnExactStackFaultCard

/-- THE TIED CARD OF 'laws.FnExactMoveFault'. -/
def fnExactMoveFaultCard : Claim7 := { stood := { row := fnExactMoveFaultRow, standIns := [], harness := (true, "9c88ba25f55bf78d69f2a81e52485b44d0a082152f5428791dd02603de5e5283"), looks := false }, kinds := [], alts := [], laidByText := true, laidKinds := [.data], laidTests := true, laidLooks := .later }
def FnExactMoveFaultCardSaid : Prop := Claim7.holds Tryd.pinned (.plain (OpenSpec.ofChange fnExactMoveFaultSpec)) fnExactMoveFaultCard

/-- THE TIED CARD OF 'laws.FnExactPartsFaults'. -/
def fnExactPartsFaultsCard : Claim7 := { stood := { row := fnExactPartsFaultsRow, standIns := [], harness := (true, "9c88ba25f55bf78d69f2a81e52485b44d0a082152f5428791dd02603de5e5283"), looks := false }, kinds := [], alts := [], laidByText := true, laidKinds := [.data, .data], laidTests := true, laidLooks := .later }
def FnExactPartsFaultsCardSaid : Prop := Claim7.holds Tryd.pinned (.plain (OpenSpec.ofChange fnExactPartsFaultsSpec)) fnExactPartsFaultsCard

/-- THE SECOND FORM's CARD OF 'laws.FnStackFault'. -/
def fnStackFaultUptoCard : Claim7 := { stood := { row := fnStackFaultUptoRow, standIns := [], harness := (true, "9c88ba25f55bf78d69f2a81e52485b44d0a082152f5428791dd02603de5e5283"), looks := false }, kinds := [], alts := [], laidByText := true, laidKinds := [.data, .data], laidTests := true, laidLooks := .later }
def FnStackFaultUptoCardSaid : Prop := Claim7.holds Tryd.pinned (.plain (OpenSpec.upto fnStackFaultSpec)) fnStackFaultUptoCard

/-- THE SECOND FORM's CARD OF 'laws.FnMoveFault'. -/
def fnMoveFaultUptoCard : Claim7 := { stood := { row := fnMoveFaultUptoRow, standIns := [], harness := (true, "9c88ba25f55bf78d69f2a81e52485b44d0a082152f5428791dd02603de5e5283"), looks := false }, kinds := [], alts := [], laidByText := true, laidKinds := [.data], laidTests := true, laidLooks := .later }
def FnMoveFaultUptoCardSaid : Prop := Claim7.holds Tryd.pinned (.plain (OpenSpec.upto fnMoveFaultSpec)) fnMoveFaultUptoCard

/-- THE SECOND FORM's CARD OF 'laws.FnPartsFaults'. -/
def fnPartsFaultsUptoCard : Claim7 := { stood := { row := fnPartsFaultsUptoRow, standIns := [], harness := (true, "9c88ba25f55bf78d69f2a81e52485b44d0a082152f5428791dd02603de5e5283"), looks := false }, kinds := [], alts := [], laidByText := true, laidKinds := [.data, .data], laidTests := true, laidLooks := .later }
def FnPartsFaultsUptoCardSaid : Prop := Claim7.holds Tryd.pinned (.plain (OpenSpec.upto fnPartsFaultsSpec)) fnPartsFaultsUptoCard

/-- THE SECOND FORM's CARD OF 'laws.FnExactStackFault'. -/
def fnExactStackFaultUptoCard : Claim7 := { stood := { row := fnExactStackFaultUptoRow, standIns := [], harness := (true, "9c88ba25f55bf78d69f2a81e52485b44d0a082152f5428791dd02603de5e5283"), looks := false }, kinds := [], alts := [], laidByText := true, laidKinds := [.data, .data], laidTests := true, laidLooks := .later }
def FnExactStackFaultUptoCardSaid : Prop := Claim7.holds Tryd.pinned (.plain (OpenSpec.upto fnExactStackFaultSpec)) fnExactStackFaultUptoCard

/-- THE SECOND FORM's CARD OF 'laws.FnExactMoveFault'. -/
def fnExactMoveFaultUptoCard : Claim7 := { stood := { row := fnExactMoveFaultUptoRow, standIns := [], harness := (true, "9c88ba25f55bf78d69f2a81e52485b44d0a082152f5428791dd02603de5e5283"), looks := false }, kinds := [], alts := [], laidByText := true, laidKinds := [.data], laidTests := true, laidLooks := .later }
def FnExactMoveFaultUptoCardSaid : Prop := Claim7.holds Tryd.pinned (.plain (OpenSpec.upto fnExactMoveFaultSpec)) fnExactMoveFaultUptoCard

/-- THE SECOND FORM's CARD OF 'laws.FnExactPartsFaults'. -/
def fnExactPartsFaultsUptoCard : Claim7 := { stood := { row := fnExactPartsFaultsUptoRow, standIns := [], harness := (true, "9c88ba25f55bf78d69f2a81e52485b44d0a082152f5428791dd02603de5e5283"), looks := false }, kinds := [], alts := [], laidByText := true, laidKinds := [.data, .data], laidTests := true, laidLooks := .later }
def FnExactPartsFaultsUptoCardSaid : Prop := Claim7.holds Tryd.pinned (.plain (OpenSpec.upto fnExactPartsFaultsSpec)) fnExactPartsFaultsUptoCard
end Rows
end Go.Proofs.YtcmhfjpofkgjbaaDoor
