/-
  DERIVED. GIVEN WITH THE SEED: THE CARDS: each row of YtllcokbnjlodbabDoorRows.lean that lists a variable, with what it lists TIED to the program's text (the seventh form; the later family's looks); each row that meets fmt, with fmt's text TOLD by the authors' own Lean function (tested against real Go, not proved from fmt's source: count such statements apart). THE CARD IS WHAT COUNTS. Prove the row's statement (the work); the ties are given (YtllcokbnjlodbabDoorTie.lean); close each card by the builder's one call (the guide's Derived/Test/ToyasCard.lean, 'card_holds'). Laid BY PROGRAM, IN A SANDBOX (cutbox-door.mjs). By AI agents, Wed Nov 11 2026. No macro, syntax, notation, axiom, sorry.
-/
import Derived.Test.YtllcokbnjlodbabDoorRows
import GoSem.ClaimSeven
namespace Go.Proofs.YtllcokbnjlodbabDoor
namespace Rows

/-- THE TIED CARD OF 'laws.FnKeyAlter'. -/
def fnKeyAlterCard : Claim7 := { stood := { row := fnKeyAlterRow, standIns := [], harness := (true, "93e35d9446ddc7f2821e6a993dbfc9060f49b375b6fffec35258a1d207328ef3"), looks := false }, kinds := [], alts := [], laidByText := true, laidKinds := [.data, .data], laidTests := true, laidLooks := .later }
def FnKeyAlterCardSaid : Prop := Claim7.holds Tryd.pinned (.plain (OpenSpec.ofChange fnKeyAlterSpec)) fnKeyAlterCard

/-- THE TIED CARD OF 'laws.FnKeysNear'. -/
def fnKeysNearCard : Claim7 := { stood := { row := fnKeysNearRow, standIns := [], harness := (true, "93e35d9446ddc7f2821e6a993dbfc9060f49b375b6fffec35258a1d207328ef3"), looks := false }, kinds := [], alts := [], laidByText := true, laidKinds := [.data, .data], laidTests := true, laidLooks := .later }
def FnKeysNearCardSaid : Prop := Claim7.holds Tryd.pinned (.plain (OpenSpec.ofChange fnKeysNearSpec)) fnKeysNearCard

/-- THE SECOND FORM's CARD OF 'laws.FnKeyAlter'. -/
def fnKeyAlterUptoCard : Claim7 := { stood := { row := fnKeyAlterUptoRow, standIns := [], harness := (true, "93e35d9446ddc7f2821e6a993dbfc9060f49b375b6fffec35258a1d207328ef3"), looks := false }, kinds := [], alts := [], laidByText := true, laidKinds := [.data, .data], laidTests := true, laidLooks := .later }
def FnKeyAlterUptoCardSaid : Prop := Claim7.holds Tryd.pinned (.plain (OpenSpec.upto fnKeyAlterSpec)) fnKeyAlterUptoCard

/-- THE SECOND FORM's CARD OF 'laws.FnKeysNear'. -/
def fnKeysNearUptoCard : Claim7 := { stood := { row := fnKeysNearUptoRow, standIns := [], harness := (true, "93e35d9446ddc7f2821e6a993dbfc9060f49b375b6fffec35258a1d207328ef3"), looks := false }, kinds := [], alts := [], laidByText := true, laidKinds := [.data, .data], laidTests := true, laidLooks := .later }
def FnKeysNearUptoCardSaid : Prop := Claim7.holds Tryd.pinned (.plain (OpenSpec.upto fnKeysNearSpec)) fnKeysNearUptoCard
end Rows
end Go.Proofs.YtllcokbnjlodbabDoor
