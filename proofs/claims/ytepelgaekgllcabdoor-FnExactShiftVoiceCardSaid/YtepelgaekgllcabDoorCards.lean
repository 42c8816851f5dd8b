/-
  DERIVED. GIVEN WITH THE SEED: THE CARDS: each row of YtepelgaekgllcabDoorRows.lean that lists a variable, with what it lists TIED to the program's text (the seventh form; the later family's looks); each row that meets fmt, with fmt's text TOLD by the authors' own Lean function (tested against real Go, not proved from fmt's source: count such statements apart). THE CARD IS WHAT COUNTS. Prove the row's statement (the work); the ties are given (YtepelgaekgllcabDoorTie.lean); close each card by the builder's one call (the guide's Derived/Test/ToyasCard.lean, 'card_holds'). Laid BY PROGRAM, IN A SANDBOX (cutbox-door.mjs). By AI agents, Wed Nov 11 2026. No macro, syntax, notation, axiom, sorry.
-/
import Derived.Test.YtepelgaekgllcabDoorRows
import GoSem.ClaimSeven
namespace Go.Proofs.YtepelgaekgllcabDoor
namespace Rows

/-- THE TIED CARD OF 'laws.FnExactShiftVoice'. -/
def fnExactShiftVoiceCard : Claim7 := { stood := { row := fnExactShiftVoiceRow, standIns := [], harness := (true, "c66d4efd631f427275af9da30db908bcc94f98eb118f37e6598ae9e91fea6783"), looks := false }, kinds := [], alts := [], laidByText := true, laidKinds := [.data], laidTests := true, laidLooks := .later }
def FnExactShiftVoiceCardSaid : Prop := Claim7.holds Tryd.pinned (.plain (OpenSpec.ofChange fnExactShiftVoiceSpec)) fnExactShiftVoiceCard

/-- THE SECOND FORM's CARD OF 'laws.FnExactShiftVoice'. -/
def fnExactShiftVoiceUptoCard : Claim7 := { stood := { row := fnExactShiftVoiceUptoRow, standIns := [], harness := (true, "c66d4efd631f427275af9da30db908bcc94f98eb118f37e6598ae9e91fea6783"), looks := false }, kinds := [], alts := [], laidByText := true, laidKinds := [.data], laidTests := true, laidLooks := .later }
def FnExactShiftVoiceUptoCardSaid : Prop := Claim7.holds Tryd.pinned (.plain (OpenSpec.upto fnExactShiftVoiceSpec)) fnExactShiftVoiceUptoCard
end Rows
end Go.Proofs.YtepelgaekgllcabDoor
