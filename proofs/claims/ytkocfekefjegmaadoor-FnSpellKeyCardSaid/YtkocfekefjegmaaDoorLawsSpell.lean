/- The walk of FnExactSpellKey. -/
import Derived.Test.YtkocfekefjegmaaDoorWalksSpell
import Derived.Test.YtkocfekefjegmaaDoorWalksEq
namespace Go.Proofs.YtkocfekefjegmaaDoor
set_option linter.unusedSimpArgs false
set_option linter.unusedVariables false
open Go.RowKit Go.Joins

theorem btrA {W0 W w1 : World} {o : Obj} (h : Below W0.heap.size W0 W) (hb : Below (W.alloc o).heap.size (W.alloc o) w1) : Below W0.heap.size W0 w1 := btr (h.alloc h.size o) hb