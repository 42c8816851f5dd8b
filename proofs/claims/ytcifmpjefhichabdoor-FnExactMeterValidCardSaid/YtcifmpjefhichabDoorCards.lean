/-
  DERIVED. GIVEN WITH THE SEED: THE CARDS: each row of YtcifmpjefhichabDoorRows.lean that lists a variable, with what it lists TIED to the program's text (the seventh form; the later family's looks); each row that meets fmt, with fmt's text TOLD by the authors' own Lean function (tested against real Go, not proved from fmt's source: count such statements apart). THE CARD IS WHAT COUNTS. Prove the row's statement (the work); the ties are given (YtcifmpjefhichabDoorTie.lean); close each card by the builder's one call (the guide's Derived/Test/ToyasCard.lean, 'card_holds'). Laid BY PROGRAM, IN A SANDBOX (cutbox-door.mjs). By AI agents, Wed Nov 11 2026. No macro, syntax, notation, axiom, sorry.
-/
import Derived.Test.YtcifmpjefhichabDoorRows
import GoSem.ClaimSeven
namespace Go.Proofs.YtcifmpjefhichabDoor
namespace Rows

/-- THE TIED CARD OF 'laws.FnExactMeterValid'. -/
def fnExactMeterValidCard : Claim7 := { stood := { row := fnExactMeterValidRow, standIns := [], harness := (true, "9e9a4486cec8fcac747e8a8748452c0a35704b4b0303693afe7c06b279d1e1de"), looks := false }, kinds := [], alts := [], laidByText := true, laidKinds := [.data], laidTests := true, laidLooks := .later }
def FnExactMeterValidCardSaid : Prop := Claim7.holds Tryd.pinned (.plain (OpenSpec.ofChange fnExactMeterValidSpec)) fnExactMeterValidCard

/-- THE SECOND FORM's CARD OF 'laws.FnExactMeterValid'. -/
def fnExactMeterValidUptoCard : Claim7 := { stood := { row := fnExactMeterValidUptoRow, standIns := [], harness := (true, "9e9a4486cec8fcac747e8a8748452c0a35704b4b0303693afe7c06b279d1e1de"), looks := false }, kinds := [], alts := [], laidByText := true, laidKinds := [.data], laidTests := true, laidLooks := .later }
def FnExactMeterValidUptoCardSaid : Prop := Claim7.holds Tryd.pinned (.plain (OpenSpec.upto fnExactMeterValidSpec)) fnExactMeterValidUptoCard
end Rows
end Go.Proofs.YtcifmpjefhichabDoor
