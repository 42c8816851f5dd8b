/-
  DERIVED. GIVEN WITH THE SEED: THE CARDS: each row of YtieoobanpllmgaaDoorRows.lean that lists a variable, with what it lists TIED to the program's text (the seventh form; the later family's looks); each row that meets fmt, with fmt's text TOLD by the authors' own Lean function (tested against real Go, not proved from fmt's source: count such statements apart). THE CARD IS WHAT COUNTS. Prove the row's statement (the work); the ties are given (YtieoobanpllmgaaDoorTie.lean); close each card by the builder's one call (the guide's Derived/Test/ToyasCard.lean, 'card_holds'). Laid BY PROGRAM, IN A SANDBOX (cutbox-door.mjs). By AI agents, Wed Nov 11 2026. No macro, syntax, notation, axiom, sorry.
-/
import Derived.Test.YtieoobanpllmgaaDoorRows
import GoSem.ClaimSeven
namespace Go.Proofs.YtieoobanpllmgaaDoor
namespace Rows

/-- THE TIED CARD OF 'laws.FnCountLines'. -/
def fnCountLinesCard : Claim7 := { stood := { row := fnCountLinesRow, standIns := [], harness := (true, "576facbe11944550652e2791dcaa70bf685cf439fb997ac2951992f0ef79c105"), looks := false }, kinds := [], alts := [], laidByText := true, laidKinds := [.data, .data], laidTests := true, laidLooks := .later }
def FnCountLinesCardSaid : Prop := Claim7.holds Tryd.pinned (.plain (OpenSpec.ofChange fnCountLinesSpec)) fnCountLinesCard

/-- THE TIED CARD OF 'laws.FnLineNumber'. -/
def fnLineNumberCard : Claim7 := { stood := { row := fnLineNumberRow, standIns := [], harness := (true, "576facbe11944550652e2791dcaa70bf685cf439fb997ac2951992f0ef79c105"), looks := false }, kinds := [], alts := [], laidByText := true, laidKinds := [.data, .data], laidTests := true, laidLooks := .later }
def FnLineNumberCardSaid : Prop := Claim7.holds Tryd.pinned (.plain (OpenSpec.ofChange fnLineNumberSpec)) fnLineNumberCard

/-- THE TIED CARD OF 'laws.FnCompleteLine'. -/
def fnCompleteLineCard : Claim7 := { stood := { row := fnCompleteLineRow, standIns := [], harness := (true, "576facbe11944550652e2791dcaa70bf685cf439fb997ac2951992f0ef79c105"), looks := false }, kinds := [], alts := [], laidByText := true, laidKinds := [.data, .data], laidTests := true, laidLooks := .later }
def FnCompleteLineCardSaid : Prop := Claim7.holds Tryd.pinned (.plain (OpenSpec.ofChange fnCompleteLineSpec)) fnCompleteLineCard

/-- THE TIED CARD OF 'laws.FnLineBounds'. -/
def fnLineBoundsCard : Claim7 := { stood := { row := fnLineBoundsRow, standIns := [], harness := (true, "576facbe11944550652e2791dcaa70bf685cf439fb997ac2951992f0ef79c105"), looks := false }, kinds := [], alts := [], laidByText := true, laidKinds := [.data, .data], laidTests := true, laidLooks := .later }
def FnLineBoundsCardSaid : Prop := Claim7.holds Tryd.pinned (.plain (OpenSpec.ofChange fnLineBoundsSpec)) fnLineBoundsCard

/-- THE TIED CARD OF 'laws.FnExactCountLines'. -/
def fnExactCountLinesCard : Claim7 := { stood := { row := fnExactCountLinesRow, standIns := [], harness := (true, "576facbe11944550652e2791dcaa70bf685cf439fb997ac2951992f0ef79c105"), looks := false }, kinds := [], alts := [], laidByText := true, laidKinds := [.data, .data], laidTests := true, laidLooks := .later }
def FnExactCountLinesCardSaid : Prop := Claim7.holds Tryd.pinned (.plain (OpenSpec.ofChange fnExactCountLinesSpec)) fnExactCountLinesCard

/-- THE TIED CARD OF 'laws.FnExactLineNumber'. -/
def fnExactLineNumberCard : Claim7 := { stood := { row := fnExactLineNumberRow, standIns := [], harness := (true, "576facbe11944550652e2791dcaa70bf685cf439fb997ac2951992f0ef79c105"), looks := false }, kinds := [], alts := [], laidByText := true, laidKinds := [.data, .data], laidTests := true, laidLooks := .later }
def FnExactLineNumberCardSaid : Prop := Claim7.holds Tryd.pinned (.plain (OpenSpec.ofChange fnExactLineNumberSpec)) fnExactLineNumberCard

/-- THE TIED CARD OF 'laws.FnExactCompleteLine'. -/
def fnExactCompleteLineCard : Claim7 := { stood := { row := fnExactCompleteLineRow, standIns := [], harness := (true, "576facbe11944550652e2791dcaa70bf685cf439fb997ac2951992f0ef79c105"), looks := false }, kinds := [], alts := [], laidByText := true, laidKinds := [.data, .data], laidTests := true, laidLooks := .later }
def FnExactCompleteLineCardSaid : Prop := Claim7.holds Tryd.pinned (.plain (OpenSpec.ofChange fnExactCompleteLineSpec)) fnExactCompleteLineCard

/-- THE SECOND FORM's CARD OF 'laws.FnCountLines'. -/
def fnCountLinesUptoCard : Claim7 := { stood := { row := fnCountLinesUptoRow, standIns := [], harness := (true, "576facbe11944550652e2791dcaa70bf685cf439fb997ac2951992f0ef79c105"), looks := false }, kinds := [], alts := [], laidByText := true, laidKinds := [.data, .data], laidTests := true, laidLooks := .later }
def FnCountLinesUptoCardSaid : Prop := Claim7.holds Tryd.pinned (.plain (OpenSpec.upto fnCountLinesSpec)) fnCountLinesUptoCard

/-- THE SECOND FORM's CARD OF 'laws.FnLineNumber'. -/
def fnLineNumberUptoCard : Claim7 := { stood := { row := fnLineNumberUptoRow, standIns := [], harness := (true, "576facbe11944550652e2791dcaa70bf685cf439fb997ac2951992f0ef79c105"), looks := false }, kinds := [], alts := [], laidByText := true, laidKinds := [.data, .data], laidTests := true, laidLooks := .later }
def FnLineNumberUptoCardSaid : Prop := Claim7.holds Tryd.pinned (.plain (OpenSpec.upto fnLineNumberSpec)) fnLineNumberUptoCard

/-- THE SECOND FORM's CARD OF 'laws.FnCompleteLine'. -/
def fnCompleteLineUptoCard : Claim7 := { stood := { row := fnCompleteLineUptoRow, standIns := [], harness := (true, "576facbe11944550652e2791dcaa70bf685cf439fb997ac2951992f0ef79c105"), looks := false }, kinds := [], alts := [], laidByText := true, laidKinds := [.data, .data], laidTests := true, laidLooks := .later }
def FnCompleteLineUptoCardSaid : Prop := Claim7.holds Tryd.pinned (.plain (OpenSpec.upto fnCompleteLineSpec)) fnCompleteLineUptoCard

/-- THE SECOND FORM's CARD OF 'laws.FnLineBounds'. -/
def fnLineBoundsUptoCard : Claim7 := { stood := { row := fnLineBoundsUptoRow, standIns := [], harness := (true, "576facbe11944550652e2791dcaa70bf685cf439fb997ac2951992f0ef79c105"), looks := false }, kinds := [], alts := [], laidByText := true, laidKinds := [.data, .data], laidTests := true, laidLooks := .later }
def FnLineBoundsUptoCardSaid : Prop := Claim7.holds Tryd.pinned (.plain (OpenSpec.upto fnLineBoundsSpec)) fnLineBoundsUptoCard

/-- THE SECOND FORM's CARD OF 'laws.FnExactCountLines'. -/
def fnExactCountLinesUptoCard : Claim7 := { stood := { row := fnExactCountLinesUptoRow, standIns := [], harness := (true, "576facbe11944550652e2791dcaa70bf685cf439fb997ac2951992f0ef79c105"), looks := false }, kinds := [], alts := [], laidByText := true, laidKinds := [.data, .data], laidTests := true, laidLooks := .later }
def FnExactCountLinesUptoCardSaid : Prop := Claim7.holds Tryd.pinned (.plain (OpenSpec.upto fnExactCountLinesSpec)) fnExactCountLinesUptoCard

/-- THE SECOND FORM's CARD OF 'laws.FnExactLineNumber'. -/
def fnExactLineNumberUptoCard : Claim7 := { stood := { row := fnExactLineNumberUptoRow, standIns := [], harness := (true, "576facbe11944550652e2791dcaa70bf685cf439fb997ac2951992f0ef79c105"), looks := false }, kinds := [], alts := [], laidByText := true, laidKinds := [.data, .data], laidTests := true, laidLooks := .later }
def FnExactLineNumberUptoCardSaid : Prop := Claim7.holds Tryd.pinned (.plain (OpenSpec.upto fnExactLineNumberSpec)) fnExactLineNumberUptoCard

/-- THE SECOND FORM's CARD OF 'laws.FnExactCompleteLine'. -/
def fnExactCompleteLineUptoCard : Claim7 := { stood := { row := fnExactCompleteLineUptoRow, standIns := [], harness := (true, "576facbe11944550652e2791dcaa70bf685cf439fb997ac2951992f0ef79c105"), looks := false }, kinds := [], alts := [], laidByText := true, laidKinds := [.data, .data], laidTests := true, laidLooks := .later }
def FnExactCompleteLineUptoCardSaid : Prop := Claim7.holds Tryd.pinned (.plain (OpenSpec.upto fnExactCompleteLineSpec)) fnExactCompleteLineUptoCard
end Rows
end Go.Proofs.YtieoobanpllmgaaDoor
