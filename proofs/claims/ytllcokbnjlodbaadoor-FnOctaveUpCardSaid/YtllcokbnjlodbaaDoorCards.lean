/-
  DERIVED. GIVEN WITH THE SEED: THE CARDS: each row of YtllcokbnjlodbaaDoorRows.lean that lists a variable, with what it lists TIED to the program's text (the seventh form; the later family's looks); each row that meets fmt, with fmt's text TOLD by the authors' own Lean function (tested against real Go, not proved from fmt's source: count such statements apart). THE CARD IS WHAT COUNTS. Prove the row's statement (the work); the ties are given (YtllcokbnjlodbaaDoorTie.lean); close each card by the builder's one call (the guide's Derived/Test/ToyasCard.lean, 'card_holds'). Laid BY PROGRAM, IN A SANDBOX (cutbox-door.mjs). By AI agents, Wed Nov 11 2026. No macro, syntax, notation, axiom, sorry.
-/
import Derived.Test.YtllcokbnjlodbaaDoorRows
import GoSem.ClaimSeven
namespace Go.Proofs.YtllcokbnjlodbaaDoor
namespace Rows

/-- THE TIED CARD OF 'laws.FnExactKeyAlter'. -/
def fnExactKeyAlterCard : Claim7 := { stood := { row := fnExactKeyAlterRow, standIns := [], harness := (true, "0ca7a79375dbd80bd129e220f88182a72695227a74e7f13a9dbb79b36f4f0d89"), looks := false }, kinds := [], alts := [], laidByText := true, laidKinds := [.data], laidTests := true, laidLooks := .later }
def FnExactKeyAlterCardSaid : Prop := Claim7.holds Tryd.pinned (.plain (OpenSpec.ofChange fnExactKeyAlterSpec)) fnExactKeyAlterCard

/-- THE TIED CARD OF 'laws.FnExactKeyTonic'. -/
def fnExactKeyTonicCard : Claim7 := { stood := { row := fnExactKeyTonicRow, standIns := [], harness := (true, "0ca7a79375dbd80bd129e220f88182a72695227a74e7f13a9dbb79b36f4f0d89"), looks := false }, kinds := [], alts := [], laidByText := true, laidKinds := [.data], laidTests := true, laidLooks := .later }
def FnExactKeyTonicCardSaid : Prop := Claim7.holds Tryd.pinned (.plain (OpenSpec.ofChange fnExactKeyTonicSpec)) fnExactKeyTonicCard

/-- THE TIED CARD OF 'laws.FnExactKeyScale'. -/
def fnExactKeyScaleCard : Claim7 := { stood := { row := fnExactKeyScaleRow, standIns := [], harness := (true, "0ca7a79375dbd80bd129e220f88182a72695227a74e7f13a9dbb79b36f4f0d89"), looks := false }, kinds := [], alts := [], laidByText := true, laidKinds := [.data], laidTests := true, laidLooks := .later }
def FnExactKeyScaleCardSaid : Prop := Claim7.holds Tryd.pinned (.plain (OpenSpec.ofChange fnExactKeyScaleSpec)) fnExactKeyScaleCard

/-- THE TIED CARD OF 'laws.FnExactInKey'. -/
def fnExactInKeyCard : Claim7 := { stood := { row := fnExactInKeyRow, standIns := [], harness := (true, "0ca7a79375dbd80bd129e220f88182a72695227a74e7f13a9dbb79b36f4f0d89"), looks := false }, kinds := [], alts := [], laidByText := true, laidKinds := [.data], laidTests := true, laidLooks := .later }
def FnExactInKeyCardSaid : Prop := Claim7.holds Tryd.pinned (.plain (OpenSpec.ofChange fnExactInKeySpec)) fnExactInKeyCard

/-- THE TIED CARD OF 'laws.FnExactKeyOf'. -/
def fnExactKeyOfCard : Claim7 := { stood := { row := fnExactKeyOfRow, standIns := [], harness := (true, "0ca7a79375dbd80bd129e220f88182a72695227a74e7f13a9dbb79b36f4f0d89"), looks := false }, kinds := [], alts := [], laidByText := true, laidKinds := [.data], laidTests := true, laidLooks := .later }
def FnExactKeyOfCardSaid : Prop := Claim7.holds Tryd.pinned (.plain (OpenSpec.ofChange fnExactKeyOfSpec)) fnExactKeyOfCard

/-- THE TIED CARD OF 'laws.FnExactDegreeOf'. -/
def fnExactDegreeOfCard : Claim7 := { stood := { row := fnExactDegreeOfRow, standIns := [], harness := (true, "0ca7a79375dbd80bd129e220f88182a72695227a74e7f13a9dbb79b36f4f0d89"), looks := false }, kinds := [], alts := [], laidByText := true, laidKinds := [.data], laidTests := true, laidLooks := .later }
def FnExactDegreeOfCardSaid : Prop := Claim7.holds Tryd.pinned (.plain (OpenSpec.ofChange fnExactDegreeOfSpec)) fnExactDegreeOfCard

/-- THE TIED CARD OF 'laws.FnKeyTonic'. -/
def fnKeyTonicCard : Claim7 := { stood := { row := fnKeyTonicRow, standIns := [], harness := (true, "0ca7a79375dbd80bd129e220f88182a72695227a74e7f13a9dbb79b36f4f0d89"), looks := false }, kinds := [], alts := [], laidByText := true, laidKinds := [.data, .data], laidTests := true, laidLooks := .later }
def FnKeyTonicCardSaid : Prop := Claim7.holds Tryd.pinned (.plain (OpenSpec.ofChange fnKeyTonicSpec)) fnKeyTonicCard

/-- THE TIED CARD OF 'laws.FnKeyScale'. -/
def fnKeyScaleCard : Claim7 := { stood := { row := fnKeyScaleRow, standIns := [], harness := (true, "0ca7a79375dbd80bd129e220f88182a72695227a74e7f13a9dbb79b36f4f0d89"), looks := false }, kinds := [], alts := [], laidByText := true, laidKinds := [.data, .data], laidTests := true, laidLooks := .later }
def FnKeyScaleCardSaid : Prop := Claim7.holds Tryd.pinned (.plain (OpenSpec.ofChange fnKeyScaleSpec)) fnKeyScaleCard

/-- THE TIED CARD OF 'laws.FnInKey'. -/
def fnInKeyCard : Claim7 := { stood := { row := fnInKeyRow, standIns := [], harness := (true, "0ca7a79375dbd80bd129e220f88182a72695227a74e7f13a9dbb79b36f4f0d89"), looks := false }, kinds := [], alts := [], laidByText := true, laidKinds := [.data, .data], laidTests := true, laidLooks := .later }
def FnInKeyCardSaid : Prop := Claim7.holds Tryd.pinned (.plain (OpenSpec.ofChange fnInKeySpec)) fnInKeyCard

/-- THE TIED CARD OF 'laws.FnKeyOf'. -/
def fnKeyOfCard : Claim7 := { stood := { row := fnKeyOfRow, standIns := [], harness := (true, "0ca7a79375dbd80bd129e220f88182a72695227a74e7f13a9dbb79b36f4f0d89"), looks := false }, kinds := [], alts := [], laidByText := true, laidKinds := [.data, .data], laidTests := true, laidLooks := .later }
def FnKeyOfCardSaid : Prop := Claim7.holds Tryd.pinned (.plain (OpenSpec.ofChange fnKeyOfSpec)) fnKeyOfCard

/-- THE TIED CARD OF 'laws.FnDegreeOf'. -/
def fnDegreeOfCard : Claim7 := { stood := { row := fnDegreeOfRow, standIns := [], harness := (true, "0ca7a79375dbd80bd129e220f88182a72695227a74e7f13a9dbb79b36f4f0d89"), looks := false }, kinds := [], alts := [], laidByText := true, laidKinds := [.data, .data], laidTests := true, laidLooks := .later }
def FnDegreeOfCardSaid : Prop := Claim7.holds Tryd.pinned (.plain (OpenSpec.ofChange fnDegreeOfSpec)) fnDegreeOfCard

/-- THE TIED CARD OF 'laws.FnOctaveUp'. -/
def fnOctaveUpCard : Claim7 := { stood := { row := fnOctaveUpRow, standIns := [], harness := (true, "0ca7a79375dbd80bd129e220f88182a72695227a74e7f13a9dbb79b36f4f0d89"), looks := false }, kinds := [], alts := [], laidByText := true, laidKinds := [.data, .data], laidTests := true, laidLooks := .later }
def FnOctaveUpCardSaid : Prop := Claim7.holds Tryd.pinned (.plain (OpenSpec.ofChange fnOctaveUpSpec)) fnOctaveUpCard

/-- THE SECOND FORM's CARD OF 'laws.FnExactKeyAlter'. -/
def fnExactKeyAlterUptoCard : Claim7 := { stood := { row := fnExactKeyAlterUptoRow, standIns := [], harness := (true, "0ca7a79375dbd80bd129e220f88182a72695227a74e7f13a9dbb79b36f4f0d89"), looks := false }, kinds := [], alts := [], laidByText := true, laidKinds := [.data], laidTests := true, laidLooks := .later }
def FnExactKeyAlterUptoCardSaid : Prop := Claim7.holds Tryd.pinned (.plain (OpenSpec.upto fnExactKeyAlterSpec)) fnExactKeyAlterUptoCard

/-- THE SECOND FORM's CARD OF 'laws.FnExactKeyTonic'. -/
def fnExactKeyTonicUptoCard : Claim7 := { stood := { row := fnExactKeyTonicUptoRow, standIns := [], harness := (true, "0ca7a79375dbd80bd129e220f88182a72695227a74e7f13a9dbb79b36f4f0d89"), looks := false }, kinds := [], alts := [], laidByText := true, laidKinds := [.data], laidTests := true, laidLooks := .later }
def FnExactKeyTonicUptoCardSaid : Prop := Claim7.holds Tryd.pinned (.plain (OpenSpec.upto fnExactKeyTonicSpec)) fnExactKeyTonicUptoCard

/-- THE SECOND FORM's CARD OF 'laws.FnExactKeyScale'. -/
def fnExactKeyScaleUptoCard : Claim7 := { stood := { row := fnExactKeyScaleUptoRow, standIns := [], harness := (true, "0ca7a79375dbd80bd129e220f88182a72695227a74e7f13a9dbb79b36f4f0d89"), looks := false }, kinds := [], alts := [], laidByText := true, laidKinds := [.data], laidTests := true, laidLooks := .later }
def FnExactKeyScaleUptoCardSaid : Prop := Claim7.holds Tryd.pinned (.plain (OpenSpec.upto fnExactKeyScaleSpec)) fnExactKeyScaleUptoCard

/-- THE SECOND FORM's CARD OF 'laws.FnExactInKey'. -/
def fnExactInKeyUptoCard : Claim7 := { stood := { row := fnExactInKeyUptoRow, standIns := [], harness := (true, "0ca7a79375dbd80bd129e220f88182a72695227a74e7f13a9dbb79b36f4f0d89"), looks := false }, kinds := [], alts := [], laidByText := true, laidKinds := [.data], laidTests := true, laidLooks := .later }
def FnExactInKeyUptoCardSaid : Prop := Claim7.holds Tryd.pinned (.plain (OpenSpec.upto fnExactInKeySpec)) fnExactInKeyUptoCard

/-- THE SECOND FORM's CARD OF 'laws.FnExactKeyOf'. -/
def fnExactKeyOfUptoCard : Claim7 := { stood := { row := fnExactKeyOfUptoRow, standIns := [], harness := (true, "0ca7a79375dbd80bd129e220f88182a72695227a74e7f13a9dbb79b36f4f0d89"), looks := false }, kinds := [], alts := [], laidByText := true, laidKinds := [.data], laidTests := true, laidLooks := .later }
def FnExactKeyOfUptoCardSaid : Prop := Claim7.holds Tryd.pinned (.plain (OpenSpec.upto fnExactKeyOfSpec)) fnExactKeyOfUptoCard

/-- THE SECOND FORM's CARD OF 'laws.FnExactDegreeOf'. -/
def fnExactDegreeOfUptoCard : Claim7 := { stood := { row := fnExactDegreeOfUptoRow, standIns := [], harness := (true, "0ca7a79375dbd80bd129e220f88182a72695227a74e7f13a9dbb79b36f4f0d89"), looks := false }, kinds := [], alts := [], laidByText := true, laidKinds := [.data], laidTests := true, laidLooks := .later }
def FnExactDegreeOfUptoCardSaid : Prop := Claim7.holds Tryd.pinned (.plain (OpenSpec.upto fnExactDegreeOfSpec)) fnExactDegreeOfUptoCard

/-- THE SECOND FORM's CARD OF 'laws.FnKeyTonic'. -/
def fnKeyTonicUptoCard : Claim7 := { stood := { row := fnKeyTonicUptoRow, standIns := [], harness := (true, "0ca7a79375dbd80bd129e220f88182a72695227a74e7f13a9dbb79b36f4f0d89"), looks := false }, kinds := [], alts := [], laidByText := true, laidKinds := [.data, .data], laidTests := true, laidLooks := .later }
def FnKeyTonicUptoCardSaid : Prop := Claim7.holds Tryd.pinned (.plain (OpenSpec.upto fnKeyTonicSpec)) fnKeyTonicUptoCard

/-- THE SECOND FORM's CARD OF 'laws.FnKeyScale'. -/
def fnKeyScaleUptoCard : Claim7 := { stood := { row := fnKeyScaleUptoRow, standIns := [], harness := (true, "0ca7a79375dbd80bd129e220f88182a72695227a74e7f13a9dbb79b36f4f0d89"), looks := false }, kinds := [], alts := [], laidByText := true, laidKinds := [.data, .data], laidTests := true, laidLooks := .later }
def FnKeyScaleUptoCardSaid : Prop := Claim7.holds Tryd.pinned (.plain (OpenSpec.upto fnKeyScaleSpec)) fnKeyScaleUptoCard

/-- THE SECOND FORM's CARD OF 'laws.FnInKey'. -/
def fnInKeyUptoCard : Claim7 := { stood := { row := fnInKeyUptoRow, standIns := [], harness := (true, "0ca7a79375dbd80bd129e220f88182a72695227a74e7f13a9dbb79b36f4f0d89"), looks := false }, kinds := [], alts := [], laidByText := true, laidKinds := [.data, .data], laidTests := true, laidLooks := .later }
def FnInKeyUptoCardSaid : Prop := Claim7.holds Tryd.pinned (.plain (OpenSpec.upto fnInKeySpec)) fnInKeyUptoCard

/-- THE SECOND FORM's CARD OF 'laws.FnKeyOf'. -/
def fnKeyOfUptoCard : Claim7 := { stood := { row := fnKeyOfUptoRow, standIns := [], harness := (true, "0ca7a79375dbd80bd129e220f88182a72695227a74e7f13a9dbb79b36f4f0d89"), looks := false }, kinds := [], alts := [], laidByText := true, laidKinds := [.data, .data], laidTests := true, laidLooks := .later }
def FnKeyOfUptoCardSaid : Prop := Claim7.holds Tryd.pinned (.plain (OpenSpec.upto fnKeyOfSpec)) fnKeyOfUptoCard

/-- THE SECOND FORM's CARD OF 'laws.FnDegreeOf'. -/
def fnDegreeOfUptoCard : Claim7 := { stood := { row := fnDegreeOfUptoRow, standIns := [], harness := (true, "0ca7a79375dbd80bd129e220f88182a72695227a74e7f13a9dbb79b36f4f0d89"), looks := false }, kinds := [], alts := [], laidByText := true, laidKinds := [.data, .data], laidTests := true, laidLooks := .later }
def FnDegreeOfUptoCardSaid : Prop := Claim7.holds Tryd.pinned (.plain (OpenSpec.upto fnDegreeOfSpec)) fnDegreeOfUptoCard

/-- THE SECOND FORM's CARD OF 'laws.FnOctaveUp'. -/
def fnOctaveUpUptoCard : Claim7 := { stood := { row := fnOctaveUpUptoRow, standIns := [], harness := (true, "0ca7a79375dbd80bd129e220f88182a72695227a74e7f13a9dbb79b36f4f0d89"), looks := false }, kinds := [], alts := [], laidByText := true, laidKinds := [.data, .data], laidTests := true, laidLooks := .later }
def FnOctaveUpUptoCardSaid : Prop := Claim7.holds Tryd.pinned (.plain (OpenSpec.upto fnOctaveUpSpec)) fnOctaveUpUptoCard
end Rows
end Go.Proofs.YtllcokbnjlodbaaDoor
