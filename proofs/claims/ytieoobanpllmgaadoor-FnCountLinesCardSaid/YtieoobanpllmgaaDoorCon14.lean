/- What the functions of chapter 14 answer, as contracts. -/
import Derived.Test.YtieoobanpllmgaaDoorWalks14L
namespace Go.Proofs.YtieoobanpllmgaaDoor
set_option linter.unusedSimpArgs false
set_option linter.unusedVariables false
set_option maxRecDepth 8000
open Go.RowKit

def CCv (g : FuncId) (w : World) : Prop := ∀ (f : Int) (va : Value) (l : List Pt) (W : World), Below w.heap.size w W → SlAt W va l.length 3 (pcC l) → l.length ≤ 1048576 →
  Calls Tryd.prog g #[.int .i64 f, va] W fun e w' => e = .returned (.bool (cvB f l)) ∧ Below W.heap.size W w'
def CLf (g : FuncId) (w : World) : Prop := ∀ (f : Int) (va vb : Value) (c l : List Pt) (W : World), Below w.heap.size w W → SlAt W va c.length 3 (pcC c) → SlAt W vb l.length 3 (pcC l) → c.length ≤ 1048576 → l.length ≤ 1048576 →
  Calls Tryd.prog g #[.int .i64 f, va, vb] W (RowOut 100 2 (lfZ f c l).length (tnC (lfZ f c l)) W)
def CLg (g : FuncId) (w : World) : Prop := ∀ (f : Int) (va vb : Value) (c l : List Pt) (W : World), Below w.heap.size w W → SlAt W va c.length 3 (pcC c) → SlAt W vb l.length 3 (pcC l) → c.length ≤ 1048576 → l.length ≤ 1048576 →
  Calls Tryd.prog g #[.int .i64 f, va, vb] W fun e w' => e = .returned (.bool (lgB f c l)) ∧ Below W.heap.size W w'
theorem CCv.to {g : FuncId} {w wd : World} (h : CCv g w) (hb : Below w.heap.size w wd) : CCv g wd := fun f va l W hW => h f va l W (btr hb hW)
theorem CLf.to {g : FuncId} {w wd : World} (h : CLf g w) (hb : Below w.heap.size w wd) : CLf g wd := fun f va vb c l W hW => h f va vb c l W (btr hb hW)
theorem CLg.to {g : FuncId} {w wd : World} (h : CLg g w) (hb : Below w.heap.size w wd) : CLg g wd := fun f va vb c l W hW => h f va vb c l W (btr hb hW)
theorem CCv.is {g : FuncId} {w : World} (h : CCv g w) {f : Int} {l : List Pt} {n : Nat} {b : Bool} (hm : l.length = n) (hn : n ≤ 1048576) (hb : cvB f l = b) (va : Value) (W : World) (hW : Below w.heap.size w W) (hs : SlAt W va n 3 (pcC l)) :
    Calls Tryd.prog g #[.int .i64 f, va] W fun e w' => e = .returned (.bool b) ∧ Below W.heap.size W w' := by
  subst hm hb; exact h f va l W hW hs hn
theorem CLf.is {g : FuncId} {w : World} (h : CLf g w) {f : Int} {c l : List Pt} {n m k : Nat} {us : List (Int × Int)} (hn : c.length = n) (hm : l.length = m) (hn9 : n ≤ 1048576) (hm9 : m ≤ 1048576) (hu : lfZ f c l = us) (hk : us.length = k) (va vb : Value) (W : World) (hW : Below w.heap.size w W) (hc : SlAt W va n 3 (pcC c)) (hl : SlAt W vb m 3 (pcC l)) :
    Calls Tryd.prog g #[.int .i64 f, va, vb] W (RowOut 100 2 k (tnC us) W) := by
  subst hn hm hk hu; exact h f va vb c l W hW hc hl hn9 hm9
theorem CLg.is {g : FuncId} {w : World} (h : CLg g w) {f : Int} {c l : List Pt} {n m : Nat} {b : Bool} (hn : c.length = n) (hm : l.length = m) (hn9 : n ≤ 1048576) (hm9 : m ≤ 1048576) (hb : lgB f c l = b) (va vb : Value) (W : World) (hW : Below w.heap.size w W) (hc : SlAt W va n 3 (pcC c)) (hl : SlAt W vb m 3 (pcC l)) :
    Calls Tryd.prog g #[.int .i64 f, va, vb] W fun e w' => e = .returned (.bool b) ∧ Below W.heap.size W w' := by
  subst hn hm hb; exact h f va vb c l W hW hc hl hn9 hm9

theorem cvS_C (w : World) : CCv 55 w := fun f va l W _ hs hn => cvS_any f va l W hs hn