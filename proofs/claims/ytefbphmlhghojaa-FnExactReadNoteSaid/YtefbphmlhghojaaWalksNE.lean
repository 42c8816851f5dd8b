/- The laws' own functions over a slice of notes that came in, empty or not. -/
import Derived.Test.YtefbphmlhghojaaWalksNS
namespace Go.Proofs.Ytefbphmlhghojaa
set_option linter.unusedSimpArgs false
set_option linter.unusedVariables false
open Go.RowKit

/-- A slice of notes that came in. -/
def NotesAt (w : World) (va : Value) (l : List Nt) : Prop := (l = [] ∧ ∃ a c, va = .slice a 0 c) ∨ SlAt w va l.length 6 (vcC l)
theorem NotesAt.below {w w' : World} {va : Value} {l : List Nt} (h : NotesAt w va l) (hb : Below w.heap.size w w') : NotesAt w' va l := h.imp id fun h => h.below hb