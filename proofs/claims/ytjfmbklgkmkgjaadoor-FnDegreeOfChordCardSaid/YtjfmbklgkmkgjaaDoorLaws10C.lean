/- The walk of FnNameChord, from what the program's functions answer. -/
import Derived.Test.YtjfmbklgkmkgjaaDoorLaws10
import Derived.Test.YtjfmbklgkmkgjaaDoorLawsX10
namespace Go.Proofs.YtjfmbklgkmkgjaaDoor
set_option linter.unusedSimpArgs false
set_option linter.unusedVariables false
set_option maxRecDepth 8000
open Go.RowKit

theorem CCh.to {f : FuncId} {w wd : World} (h : CCh f w) (hb : Below w.heap.size w wd) : CCh f wd := fun x k W hW => h x k W (btr hb hW)
theorem CNm.to {f : FuncId} {w wd : World} (h : CNm f w) (hb : Below w.heap.size w wd) : CNm f wd := fun va l W hW => h va l W (btr hb hW)
theorem CKc.to {f : FuncId} {w wd : World} (h : CKc f w) (hb : Below w.heap.size w wd) : CKc f wd := fun va l W hW => h va l W (btr hb hW)
/-- Some one of the first j tones has the class of y. -/
def foB (t : List Pt) (y : Pt) (j : Nat) : Bool := hasB (t.take j) y
theorem foB_up {t : List Pt} {y x : Pt} {j : Nat} (hx : t[j]? = some x) : foB t y (j + 1) = (foB t y j || ((x.s == y.s) && (x.a == y.a))) := by
  unfold foB hasB
  rw [List.take_add_one, hx, List.any_append]
  simp [clB]
theorem foB_all {t : List Pt} {y : Pt} {m : Nat} (h : t.length = m) : foB t y m = hasB t y := by
  unfold foB; rw [← h, List.take_length]