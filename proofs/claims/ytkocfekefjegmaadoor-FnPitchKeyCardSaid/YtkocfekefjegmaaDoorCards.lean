/-
  DERIVED. GIVEN WITH THE SEED: THE CARDS: each row of YtkocfekefjegmaaDoorRows.lean that lists a variable, with what it lists TIED to the program's text (the seventh form; the later family's looks); each row that meets fmt, with fmt's text TOLD by the authors' own Lean function (tested against real Go, not proved from fmt's source: count such statements apart). THE CARD IS WHAT COUNTS. Prove the row's statement (the work); the ties are given (YtkocfekefjegmaaDoorTie.lean); close each card by the builder's one call (the guide's Derived/Test/ToyasCard.lean, 'card_holds'). Laid BY PROGRAM, IN A SANDBOX (cutbox-door.mjs). By AI agents, Wed Nov 11 2026. No macro, syntax, notation, axiom, sorry.
-/
import Derived.Test.YtkocfekefjegmaaDoorRows
import GoSem.ClaimSeven
namespace Go.Proofs.YtkocfekefjegmaaDoor
namespace Rows

/-- THE TIED CARD OF 'laws.FnExactPitchKey'. -/
def fnExactPitchKeyCard : Claim7 := { stood := { row := fnExactPitchKeyRow, standIns := [], harness := (true, "5abcef08582f64d39096ed84d1a5449974087af949ad96958dbe4ff2719612ba"), looks := false }, kinds := [], alts := [], laidByText := true, laidKinds := [.data], laidTests := true, laidLooks := .later }
def FnExactPitchKeyCardSaid : Prop := Claim7.holds Tryd.pinned (.plain (OpenSpec.ofChange fnExactPitchKeySpec)) fnExactPitchKeyCard

/-- THE TIED CARD OF 'laws.FnPitchKey'. -/
def fnPitchKeyCard : Claim7 := { stood := { row := fnPitchKeyRow, standIns := [], harness := (true, "5abcef08582f64d39096ed84d1a5449974087af949ad96958dbe4ff2719612ba"), looks := false }, kinds := [], alts := [], laidByText := true, laidKinds := [.data], laidTests := true, laidLooks := .later }
def FnPitchKeyCardSaid : Prop := Claim7.holds Tryd.pinned (.plain (OpenSpec.ofChange fnPitchKeySpec)) fnPitchKeyCard

/-- THE TIED CARD OF 'laws.FnSpellKey'. -/
def fnSpellKeyCard : Claim7 := { stood := { row := fnSpellKeyRow, standIns := [], harness := (true, "5abcef08582f64d39096ed84d1a5449974087af949ad96958dbe4ff2719612ba"), looks := false }, kinds := [], alts := [], laidByText := true, laidKinds := [.data], laidTests := true, laidLooks := .later }
def FnSpellKeyCardSaid : Prop := Claim7.holds Tryd.pinned (.plain (OpenSpec.ofChange fnSpellKeySpec)) fnSpellKeyCard

/-- THE SECOND FORM's CARD OF 'laws.FnExactPitchKey'. -/
def fnExactPitchKeyUptoCard : Claim7 := { stood := { row := fnExactPitchKeyUptoRow, standIns := [], harness := (true, "5abcef08582f64d39096ed84d1a5449974087af949ad96958dbe4ff2719612ba"), looks := false }, kinds := [], alts := [], laidByText := true, laidKinds := [.data], laidTests := true, laidLooks := .later }
def FnExactPitchKeyUptoCardSaid : Prop := Claim7.holds Tryd.pinned (.plain (OpenSpec.upto fnExactPitchKeySpec)) fnExactPitchKeyUptoCard

/-- THE SECOND FORM's CARD OF 'laws.FnPitchKey'. -/
def fnPitchKeyUptoCard : Claim7 := { stood := { row := fnPitchKeyUptoRow, standIns := [], harness := (true, "5abcef08582f64d39096ed84d1a5449974087af949ad96958dbe4ff2719612ba"), looks := false }, kinds := [], alts := [], laidByText := true, laidKinds := [.data], laidTests := true, laidLooks := .later }
def FnPitchKeyUptoCardSaid : Prop := Claim7.holds Tryd.pinned (.plain (OpenSpec.upto fnPitchKeySpec)) fnPitchKeyUptoCard

/-- THE SECOND FORM's CARD OF 'laws.FnSpellKey'. -/
def fnSpellKeyUptoCard : Claim7 := { stood := { row := fnSpellKeyUptoRow, standIns := [], harness := (true, "5abcef08582f64d39096ed84d1a5449974087af949ad96958dbe4ff2719612ba"), looks := false }, kinds := [], alts := [], laidByText := true, laidKinds := [.data], laidTests := true, laidLooks := .later }
def FnSpellKeyUptoCardSaid : Prop := Claim7.holds Tryd.pinned (.plain (OpenSpec.upto fnSpellKeySpec)) fnSpellKeyUptoCard
end Rows
end Go.Proofs.YtkocfekefjegmaaDoor
