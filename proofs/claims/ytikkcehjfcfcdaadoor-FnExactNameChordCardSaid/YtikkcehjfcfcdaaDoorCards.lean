/-
  DERIVED. GIVEN WITH THE SEED: THE CARDS: each row of YtikkcehjfcfcdaaDoorRows.lean that lists a variable, with what it lists TIED to the program's text (the seventh form; the later family's looks); each row that meets fmt, with fmt's text TOLD by the authors' own Lean function (tested against real Go, not proved from fmt's source: count such statements apart). THE CARD IS WHAT COUNTS. Prove the row's statement (the work); the ties are given (YtikkcehjfcfcdaaDoorTie.lean); close each card by the builder's one call (the guide's Derived/Test/ToyasCard.lean, 'card_holds'). Laid BY PROGRAM, IN A SANDBOX (cutbox-door.mjs). By AI agents, Wed Nov 11 2026. No macro, syntax, notation, axiom, sorry.
-/
import Derived.Test.YtikkcehjfcfcdaaDoorRows
import GoSem.ClaimSeven
namespace Go.Proofs.YtikkcehjfcfcdaaDoor
namespace Rows

/-- THE TIED CARD OF 'laws.FnNameChord'. -/
def fnNameChordCard : Claim7 := { stood := { row := fnNameChordRow, standIns := [], harness := (true, "1212b3c049533c44094321f1adf8fcb80768ddd6094a22343584fd36f6aeab81"), looks := false }, kinds := [], alts := [], laidByText := true, laidKinds := [.data, .wider, .data], laidTests := true, laidLooks := .later }
def FnNameChordCardSaid : Prop := Claim7.holds Tryd.pinned (.plain (OpenSpec.ofChange fnNameChordSpec)) fnNameChordCard

/-- THE TIED CARD OF 'laws.FnExactNameChord'. -/
def fnExactNameChordCard : Claim7 := { stood := { row := fnExactNameChordRow, standIns := [], harness := (true, "1212b3c049533c44094321f1adf8fcb80768ddd6094a22343584fd36f6aeab81"), looks := false }, kinds := [], alts := [], laidByText := true, laidKinds := [.data, .wider, .data], laidTests := true, laidLooks := .later }
def FnExactNameChordCardSaid : Prop := Claim7.holds Tryd.pinned (.plain (OpenSpec.ofChange fnExactNameChordSpec)) fnExactNameChordCard

/-- THE SECOND FORM's CARD OF 'laws.FnNameChord'. -/
def fnNameChordUptoCard : Claim7 := { stood := { row := fnNameChordUptoRow, standIns := [], harness := (true, "1212b3c049533c44094321f1adf8fcb80768ddd6094a22343584fd36f6aeab81"), looks := false }, kinds := [], alts := [], laidByText := true, laidKinds := [.data, .wider, .data], laidTests := true, laidLooks := .later }
def FnNameChordUptoCardSaid : Prop := Claim7.holds Tryd.pinned (.plain (OpenSpec.upto fnNameChordSpec)) fnNameChordUptoCard

/-- THE SECOND FORM's CARD OF 'laws.FnExactNameChord'. -/
def fnExactNameChordUptoCard : Claim7 := { stood := { row := fnExactNameChordUptoRow, standIns := [], harness := (true, "1212b3c049533c44094321f1adf8fcb80768ddd6094a22343584fd36f6aeab81"), looks := false }, kinds := [], alts := [], laidByText := true, laidKinds := [.data, .wider, .data], laidTests := true, laidLooks := .later }
def FnExactNameChordUptoCardSaid : Prop := Claim7.holds Tryd.pinned (.plain (OpenSpec.upto fnExactNameChordSpec)) fnExactNameChordUptoCard
end Rows
end Go.Proofs.YtikkcehjfcfcdaaDoor
