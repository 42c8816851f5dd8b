/- Chapter 10 in the program: a list of pitches is valid. -/
import Derived.Test.YtcgcnkddgihkpaaDoorWalksPt
import Derived.Test.YtcgcnkddgihkpaaDoorWalks1
import Derived.WalkLawsBesides
import Derived.Lib.SmallJoins
namespace Go.Proofs.YtcgcnkddgihkpaaDoor
set_option linter.unusedSimpArgs false
set_option linter.unusedVariables false
set_option maxRecDepth 8000
open Go.RowKit Go.Joins

theorem pvI_at {x : Pt} {b : Bool} (h : pvP x = b) (W : World) :
    Calls Tryd.prog 59 #[.agg #[.int .i64 x.s, .int .i64 x.a, .int .i64 x.o]] W fun e w' => e = .returned (.bool b) ∧ Below W.heap.size W w' := by
  subst h; exact pvI_any x.s x.a x.o W