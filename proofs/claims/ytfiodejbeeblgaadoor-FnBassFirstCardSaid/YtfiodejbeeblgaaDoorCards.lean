/-
  DERIVED. GIVEN WITH THE SEED: THE CARDS: each row of YtfiodejbeeblgaaDoorRows.lean that lists a variable, with what it lists TIED to the program's text (the seventh form; the later family's looks); each row that meets fmt, with fmt's text TOLD by the authors' own Lean function (tested against real Go, not proved from fmt's source: count such statements apart). THE CARD IS WHAT COUNTS. Prove the row's statement (the work); the ties are given (YtfiodejbeeblgaaDoorTie.lean); close each card by the builder's one call (the guide's Derived/Test/ToyasCard.lean, 'card_holds'). Laid BY PROGRAM, IN A SANDBOX (cutbox-door.mjs). By AI agents, Wed Nov 11 2026. No macro, syntax, notation, axiom, sorry.
-/
import Derived.Test.YtfiodejbeeblgaaDoorRows
import GoSem.ClaimSeven
namespace Go.Proofs.YtfiodejbeeblgaaDoor
namespace Rows

/-- THE TIED CARD OF 'laws.FnFigureTones'. -/
def fnFigureTonesCard : Claim7 := { stood := { row := fnFigureTonesRow, standIns := [], harness := (true, "b4cae80e66d1000dece22c3266f3c2d850ad5f46c9abe093946e626b106f751b"), looks := false }, kinds := [], alts := [], laidByText := true, laidKinds := [.data, .data], laidTests := true, laidLooks := .later }
def FnFigureTonesCardSaid : Prop := Claim7.holds Tryd.pinned (.plain (OpenSpec.ofChange fnFigureTonesSpec)) fnFigureTonesCard

/-- THE TIED CARD OF 'laws.FnRealizeBass'. -/
def fnRealizeBassCard : Claim7 := { stood := { row := fnRealizeBassRow, standIns := [], harness := (true, "b4cae80e66d1000dece22c3266f3c2d850ad5f46c9abe093946e626b106f751b"), looks := false }, kinds := [], alts := [], laidByText := true, laidKinds := [.data, .data, .data], laidTests := true, laidLooks := .later }
def FnRealizeBassCardSaid : Prop := Claim7.holds Tryd.pinned (.plain (OpenSpec.ofChange fnRealizeBassSpec)) fnRealizeBassCard

/-- THE TIED CARD OF 'laws.FnRealizeFault'. -/
def fnRealizeFaultCard : Claim7 := { stood := { row := fnRealizeFaultRow, standIns := [], harness := (true, "b4cae80e66d1000dece22c3266f3c2d850ad5f46c9abe093946e626b106f751b"), looks := false }, kinds := [], alts := [], laidByText := true, laidKinds := [.data, .data, .data], laidTests := true, laidLooks := .later }
def FnRealizeFaultCardSaid : Prop := Claim7.holds Tryd.pinned (.plain (OpenSpec.ofChange fnRealizeFaultSpec)) fnRealizeFaultCard

/-- THE TIED CARD OF 'laws.FnBassFirst'. -/
def fnBassFirstCard : Claim7 := { stood := { row := fnBassFirstRow, standIns := [], harness := (true, "b4cae80e66d1000dece22c3266f3c2d850ad5f46c9abe093946e626b106f751b"), looks := false }, kinds := [], alts := [], laidByText := true, laidKinds := [.data, .data, .data], laidTests := true, laidLooks := .later }
def FnBassFirstCardSaid : Prop := Claim7.holds Tryd.pinned (.plain (OpenSpec.ofChange fnBassFirstSpec)) fnBassFirstCard

/-- THE TIED CARD OF 'laws.FnExactFigureTones'. -/
def fnExactFigureTonesCard : Claim7 := { stood := { row := fnExactFigureTonesRow, standIns := [], harness := (true, "b4cae80e66d1000dece22c3266f3c2d850ad5f46c9abe093946e626b106f751b"), looks := false }, kinds := [], alts := [], laidByText := true, laidKinds := [.data], laidTests := true, laidLooks := .later }
def FnExactFigureTonesCardSaid : Prop := Claim7.holds Tryd.pinned (.plain (OpenSpec.ofChange fnExactFigureTonesSpec)) fnExactFigureTonesCard

/-- THE TIED CARD OF 'laws.FnExactRealizeBass'. -/
def fnExactRealizeBassCard : Claim7 := { stood := { row := fnExactRealizeBassRow, standIns := [], harness := (true, "b4cae80e66d1000dece22c3266f3c2d850ad5f46c9abe093946e626b106f751b"), looks := false }, kinds := [], alts := [], laidByText := true, laidKinds := [.data, .data, .data], laidTests := true, laidLooks := .later }
def FnExactRealizeBassCardSaid : Prop := Claim7.holds Tryd.pinned (.plain (OpenSpec.ofChange fnExactRealizeBassSpec)) fnExactRealizeBassCard

/-- THE TIED CARD OF 'laws.FnExactRealizeFault'. -/
def fnExactRealizeFaultCard : Claim7 := { stood := { row := fnExactRealizeFaultRow, standIns := [], harness := (true, "b4cae80e66d1000dece22c3266f3c2d850ad5f46c9abe093946e626b106f751b"), looks := false }, kinds := [], alts := [], laidByText := true, laidKinds := [.data, .data, .data], laidTests := true, laidLooks := .later }
def FnExactRealizeFaultCardSaid : Prop := Claim7.holds Tryd.pinned (.plain (OpenSpec.ofChange fnExactRealizeFaultSpec)) fnExactRealizeFaultCard

/-- THE SECOND FORM's CARD OF 'laws.FnFigureTones'. -/
def fnFigureTonesUptoCard : Claim7 := { stood := { row := fnFigureTonesUptoRow, standIns := [], harness := (true, "b4cae80e66d1000dece22c3266f3c2d850ad5f46c9abe093946e626b106f751b"), looks := false }, kinds := [], alts := [], laidByText := true, laidKinds := [.data, .data], laidTests := true, laidLooks := .later }
def FnFigureTonesUptoCardSaid : Prop := Claim7.holds Tryd.pinned (.plain (OpenSpec.upto fnFigureTonesSpec)) fnFigureTonesUptoCard

/-- THE SECOND FORM's CARD OF 'laws.FnRealizeBass'. -/
def fnRealizeBassUptoCard : Claim7 := { stood := { row := fnRealizeBassUptoRow, standIns := [], harness := (true, "b4cae80e66d1000dece22c3266f3c2d850ad5f46c9abe093946e626b106f751b"), looks := false }, kinds := [], alts := [], laidByText := true, laidKinds := [.data, .data, .data], laidTests := true, laidLooks := .later }
def FnRealizeBassUptoCardSaid : Prop := Claim7.holds Tryd.pinned (.plain (OpenSpec.upto fnRealizeBassSpec)) fnRealizeBassUptoCard

/-- THE SECOND FORM's CARD OF 'laws.FnRealizeFault'. -/
def fnRealizeFaultUptoCard : Claim7 := { stood := { row := fnRealizeFaultUptoRow, standIns := [], harness := (true, "b4cae80e66d1000dece22c3266f3c2d850ad5f46c9abe093946e626b106f751b"), looks := false }, kinds := [], alts := [], laidByText := true, laidKinds := [.data, .data, .data], laidTests := true, laidLooks := .later }
def FnRealizeFaultUptoCardSaid : Prop := Claim7.holds Tryd.pinned (.plain (OpenSpec.upto fnRealizeFaultSpec)) fnRealizeFaultUptoCard

/-- THE SECOND FORM's CARD OF 'laws.FnBassFirst'. -/
def fnBassFirstUptoCard : Claim7 := { stood := { row := fnBassFirstUptoRow, standIns := [], harness := (true, "b4cae80e66d1000dece22c3266f3c2d850ad5f46c9abe093946e626b106f751b"), looks := false }, kinds := [], alts := [], laidByText := true, laidKinds := [.data, .data, .data], laidTests := true, laidLooks := .later }
def FnBassFirstUptoCardSaid : Prop := Claim7.holds Tryd.pinned (.plain (OpenSpec.upto fnBassFirstSpec)) fnBassFirstUptoCard

/-- THE SECOND FORM's CARD OF 'laws.FnExactFigureTones'. -/
def fnExactFigureTonesUptoCard : Claim7 := { stood := { row := fnExactFigureTonesUptoRow, standIns := [], harness := (true, "b4cae80e66d1000dece22c3266f3c2d850ad5f46c9abe093946e626b106f751b"), looks := false }, kinds := [], alts := [], laidByText := true, laidKinds := [.data], laidTests := true, laidLooks := .later }
def FnExactFigureTonesUptoCardSaid : Prop := Claim7.holds Tryd.pinned (.plain (OpenSpec.upto fnExactFigureTonesSpec)) fnExactFigureTonesUptoCard

/-- THE SECOND FORM's CARD OF 'laws.FnExactRealizeBass'. -/
def fnExactRealizeBassUptoCard : Claim7 := { stood := { row := fnExactRealizeBassUptoRow, standIns := [], harness := (true, "b4cae80e66d1000dece22c3266f3c2d850ad5f46c9abe093946e626b106f751b"), looks := false }, kinds := [], alts := [], laidByText := true, laidKinds := [.data, .data, .data], laidTests := true, laidLooks := .later }
def FnExactRealizeBassUptoCardSaid : Prop := Claim7.holds Tryd.pinned (.plain (OpenSpec.upto fnExactRealizeBassSpec)) fnExactRealizeBassUptoCard

/-- THE SECOND FORM's CARD OF 'laws.FnExactRealizeFault'. -/
def fnExactRealizeFaultUptoCard : Claim7 := { stood := { row := fnExactRealizeFaultUptoRow, standIns := [], harness := (true, "b4cae80e66d1000dece22c3266f3c2d850ad5f46c9abe093946e626b106f751b"), looks := false }, kinds := [], alts := [], laidByText := true, laidKinds := [.data, .data, .data], laidTests := true, laidLooks := .later }
def FnExactRealizeFaultUptoCardSaid : Prop := Claim7.holds Tryd.pinned (.plain (OpenSpec.upto fnExactRealizeFaultSpec)) fnExactRealizeFaultUptoCard
end Rows
end Go.Proofs.YtfiodejbeeblgaaDoor
