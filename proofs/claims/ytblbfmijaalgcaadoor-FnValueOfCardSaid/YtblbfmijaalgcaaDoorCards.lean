/-
  DERIVED. GIVEN WITH THE SEED: THE CARDS: each row of YtblbfmijaalgcaaDoorRows.lean that lists a variable, with what it lists TIED to the program's text (the seventh form; the later family's looks); each row that meets fmt, with fmt's text TOLD by the authors' own Lean function (tested against real Go, not proved from fmt's source: count such statements apart). THE CARD IS WHAT COUNTS. Prove the row's statement (the work); the ties are given (YtblbfmijaalgcaaDoorTie.lean); close each card by the builder's one call (the guide's Derived/Test/ToyasCard.lean, 'card_holds'). Laid BY PROGRAM, IN A SANDBOX (cutbox-door.mjs). By AI agents, Wed Nov 11 2026. No macro, syntax, notation, axiom, sorry.
-/
import Derived.Test.YtblbfmijaalgcaaDoorRows
import GoSem.ClaimSeven
namespace Go.Proofs.YtblbfmijaalgcaaDoor
namespace Rows

/-- THE TIED CARD OF 'laws.FnValueValid'. -/
def fnValueValidCard : Claim7 := { stood := { row := fnValueValidRow, standIns := [], harness := (true, "0958649a560de5fbbba39fe12732a3478595172aedc860c0eb13c870358ad504"), looks := false }, kinds := [], alts := [], laidByText := true, laidKinds := [.data, .data], laidTests := true, laidLooks := .later }
def FnValueValidCardSaid : Prop := Claim7.holds Tryd.pinned (.plain (OpenSpec.ofChange fnValueValidSpec)) fnValueValidCard

/-- THE TIED CARD OF 'laws.FnTicksOf'. -/
def fnTicksOfCard : Claim7 := { stood := { row := fnTicksOfRow, standIns := [], harness := (true, "0958649a560de5fbbba39fe12732a3478595172aedc860c0eb13c870358ad504"), looks := false }, kinds := [], alts := [], laidByText := true, laidKinds := [.data, .data, .data], laidTests := true, laidLooks := .later }
def FnTicksOfCardSaid : Prop := Claim7.holds Tryd.pinned (.plain (OpenSpec.ofChange fnTicksOfSpec)) fnTicksOfCard

/-- THE TIED CARD OF 'laws.FnValueOf'. -/
def fnValueOfCard : Claim7 := { stood := { row := fnValueOfRow, standIns := [], harness := (true, "0958649a560de5fbbba39fe12732a3478595172aedc860c0eb13c870358ad504"), looks := false }, kinds := [], alts := [], laidByText := true, laidKinds := [.data, .data, .data], laidTests := true, laidLooks := .later }
def FnValueOfCardSaid : Prop := Claim7.holds Tryd.pinned (.plain (OpenSpec.ofChange fnValueOfSpec)) fnValueOfCard

/-- THE TIED CARD OF 'laws.FnTiedTicks'. -/
def fnTiedTicksCard : Claim7 := { stood := { row := fnTiedTicksRow, standIns := [], harness := (true, "0958649a560de5fbbba39fe12732a3478595172aedc860c0eb13c870358ad504"), looks := false }, kinds := [], alts := [], laidByText := true, laidKinds := [.data, .data, .data], laidTests := true, laidLooks := .later }
def FnTiedTicksCardSaid : Prop := Claim7.holds Tryd.pinned (.plain (OpenSpec.ofChange fnTiedTicksSpec)) fnTiedTicksCard

/-- THE TIED CARD OF 'laws.FnTiedFew'. -/
def fnTiedFewCard : Claim7 := { stood := { row := fnTiedFewRow, standIns := [], harness := (true, "0958649a560de5fbbba39fe12732a3478595172aedc860c0eb13c870358ad504"), looks := false }, kinds := [], alts := [], laidByText := true, laidKinds := [.data, .data, .data], laidTests := true, laidLooks := .later }
def FnTiedFewCardSaid : Prop := Claim7.holds Tryd.pinned (.plain (OpenSpec.ofChange fnTiedFewSpec)) fnTiedFewCard

/-- THE TIED CARD OF 'laws.FnExactValueValid'. -/
def fnExactValueValidCard : Claim7 := { stood := { row := fnExactValueValidRow, standIns := [], harness := (true, "0958649a560de5fbbba39fe12732a3478595172aedc860c0eb13c870358ad504"), looks := false }, kinds := [], alts := [], laidByText := true, laidKinds := [.data], laidTests := true, laidLooks := .later }
def FnExactValueValidCardSaid : Prop := Claim7.holds Tryd.pinned (.plain (OpenSpec.ofChange fnExactValueValidSpec)) fnExactValueValidCard

/-- THE TIED CARD OF 'laws.FnExactTicksOf'. -/
def fnExactTicksOfCard : Claim7 := { stood := { row := fnExactTicksOfRow, standIns := [], harness := (true, "0958649a560de5fbbba39fe12732a3478595172aedc860c0eb13c870358ad504"), looks := false }, kinds := [], alts := [], laidByText := true, laidKinds := [.data, .data], laidTests := true, laidLooks := .later }
def FnExactTicksOfCardSaid : Prop := Claim7.holds Tryd.pinned (.plain (OpenSpec.ofChange fnExactTicksOfSpec)) fnExactTicksOfCard

/-- THE TIED CARD OF 'laws.FnExactValueOf'. -/
def fnExactValueOfCard : Claim7 := { stood := { row := fnExactValueOfRow, standIns := [], harness := (true, "0958649a560de5fbbba39fe12732a3478595172aedc860c0eb13c870358ad504"), looks := false }, kinds := [], alts := [], laidByText := true, laidKinds := [.data, .data], laidTests := true, laidLooks := .later }
def FnExactValueOfCardSaid : Prop := Claim7.holds Tryd.pinned (.plain (OpenSpec.ofChange fnExactValueOfSpec)) fnExactValueOfCard

/-- THE TIED CARD OF 'laws.FnExactTiedTicks'. -/
def fnExactTiedTicksCard : Claim7 := { stood := { row := fnExactTiedTicksRow, standIns := [], harness := (true, "0958649a560de5fbbba39fe12732a3478595172aedc860c0eb13c870358ad504"), looks := false }, kinds := [], alts := [], laidByText := true, laidKinds := [.data, .data], laidTests := true, laidLooks := .later }
def FnExactTiedTicksCardSaid : Prop := Claim7.holds Tryd.pinned (.plain (OpenSpec.ofChange fnExactTiedTicksSpec)) fnExactTiedTicksCard

/-- THE SECOND FORM's CARD OF 'laws.FnValueValid'. -/
def fnValueValidUptoCard : Claim7 := { stood := { row := fnValueValidUptoRow, standIns := [], harness := (true, "0958649a560de5fbbba39fe12732a3478595172aedc860c0eb13c870358ad504"), looks := false }, kinds := [], alts := [], laidByText := true, laidKinds := [.data, .data], laidTests := true, laidLooks := .later }
def FnValueValidUptoCardSaid : Prop := Claim7.holds Tryd.pinned (.plain (OpenSpec.upto fnValueValidSpec)) fnValueValidUptoCard

/-- THE SECOND FORM's CARD OF 'laws.FnTicksOf'. -/
def fnTicksOfUptoCard : Claim7 := { stood := { row := fnTicksOfUptoRow, standIns := [], harness := (true, "0958649a560de5fbbba39fe12732a3478595172aedc860c0eb13c870358ad504"), looks := false }, kinds := [], alts := [], laidByText := true, laidKinds := [.data, .data, .data], laidTests := true, laidLooks := .later }
def FnTicksOfUptoCardSaid : Prop := Claim7.holds Tryd.pinned (.plain (OpenSpec.upto fnTicksOfSpec)) fnTicksOfUptoCard

/-- THE SECOND FORM's CARD OF 'laws.FnValueOf'. -/
def fnValueOfUptoCard : Claim7 := { stood := { row := fnValueOfUptoRow, standIns := [], harness := (true, "0958649a560de5fbbba39fe12732a3478595172aedc860c0eb13c870358ad504"), looks := false }, kinds := [], alts := [], laidByText := true, laidKinds := [.data, .data, .data], laidTests := true, laidLooks := .later }
def FnValueOfUptoCardSaid : Prop := Claim7.holds Tryd.pinned (.plain (OpenSpec.upto fnValueOfSpec)) fnValueOfUptoCard

/-- THE SECOND FORM's CARD OF 'laws.FnTiedTicks'. -/
def fnTiedTicksUptoCard : Claim7 := { stood := { row := fnTiedTicksUptoRow, standIns := [], harness := (true, "0958649a560de5fbbba39fe12732a3478595172aedc860c0eb13c870358ad504"), looks := false }, kinds := [], alts := [], laidByText := true, laidKinds := [.data, .data, .data], laidTests := true, laidLooks := .later }
def FnTiedTicksUptoCardSaid : Prop := Claim7.holds Tryd.pinned (.plain (OpenSpec.upto fnTiedTicksSpec)) fnTiedTicksUptoCard

/-- THE SECOND FORM's CARD OF 'laws.FnTiedFew'. -/
def fnTiedFewUptoCard : Claim7 := { stood := { row := fnTiedFewUptoRow, standIns := [], harness := (true, "0958649a560de5fbbba39fe12732a3478595172aedc860c0eb13c870358ad504"), looks := false }, kinds := [], alts := [], laidByText := true, laidKinds := [.data, .data, .data], laidTests := true, laidLooks := .later }
def FnTiedFewUptoCardSaid : Prop := Claim7.holds Tryd.pinned (.plain (OpenSpec.upto fnTiedFewSpec)) fnTiedFewUptoCard

/-- THE SECOND FORM's CARD OF 'laws.FnExactValueValid'. -/
def fnExactValueValidUptoCard : Claim7 := { stood := { row := fnExactValueValidUptoRow, standIns := [], harness := (true, "0958649a560de5fbbba39fe12732a3478595172aedc860c0eb13c870358ad504"), looks := false }, kinds := [], alts := [], laidByText := true, laidKinds := [.data], laidTests := true, laidLooks := .later }
def FnExactValueValidUptoCardSaid : Prop := Claim7.holds Tryd.pinned (.plain (OpenSpec.upto fnExactValueValidSpec)) fnExactValueValidUptoCard

/-- THE SECOND FORM's CARD OF 'laws.FnExactTicksOf'. -/
def fnExactTicksOfUptoCard : Claim7 := { stood := { row := fnExactTicksOfUptoRow, standIns := [], harness := (true, "0958649a560de5fbbba39fe12732a3478595172aedc860c0eb13c870358ad504"), looks := false }, kinds := [], alts := [], laidByText := true, laidKinds := [.data, .data], laidTests := true, laidLooks := .later }
def FnExactTicksOfUptoCardSaid : Prop := Claim7.holds Tryd.pinned (.plain (OpenSpec.upto fnExactTicksOfSpec)) fnExactTicksOfUptoCard

/-- THE SECOND FORM's CARD OF 'laws.FnExactValueOf'. -/
def fnExactValueOfUptoCard : Claim7 := { stood := { row := fnExactValueOfUptoRow, standIns := [], harness := (true, "0958649a560de5fbbba39fe12732a3478595172aedc860c0eb13c870358ad504"), looks := false }, kinds := [], alts := [], laidByText := true, laidKinds := [.data, .data], laidTests := true, laidLooks := .later }
def FnExactValueOfUptoCardSaid : Prop := Claim7.holds Tryd.pinned (.plain (OpenSpec.upto fnExactValueOfSpec)) fnExactValueOfUptoCard

/-- THE SECOND FORM's CARD OF 'laws.FnExactTiedTicks'. -/
def fnExactTiedTicksUptoCard : Claim7 := { stood := { row := fnExactTiedTicksUptoRow, standIns := [], harness := (true, "0958649a560de5fbbba39fe12732a3478595172aedc860c0eb13c870358ad504"), looks := false }, kinds := [], alts := [], laidByText := true, laidKinds := [.data, .data], laidTests := true, laidLooks := .later }
def FnExactTiedTicksUptoCardSaid : Prop := Claim7.holds Tryd.pinned (.plain (OpenSpec.upto fnExactTiedTicksSpec)) fnExactTiedTicksUptoCard
end Rows
end Go.Proofs.YtblbfmijaalgcaaDoor
