/- What the functions of chapter 12 answer, as contracts. -/
import Derived.Test.YtcmhfjpofkgjbaaDoorWalks12S
namespace Go.Proofs.YtcmhfjpofkgjbaaDoor
set_option linter.unusedSimpArgs false
set_option linter.unusedVariables false
set_option maxRecDepth 8000
open Go.RowKit

def CSt (g : FuncId) (w : World) : Prop := ∀ (va : Value) (l : List Pt) (W : World), Below w.heap.size w W → SlAt W va l.length 3 (pcC l) → l.length ≤ 1048576 → (∀ x ∈ l, p64s x) →
  Calls Tryd.prog g #[va] W fun e w' => e = .returned (.int .i64 (stZ l)) ∧ Below W.heap.size W w'
def CMv (g : FuncId) (w : World) : Prop := ∀ (va vb : Value) (a b : List Pt) (W : World), Below w.heap.size w W → SlAt W va a.length 3 (pcC a) → SlAt W vb b.length 3 (pcC b) → a.length ≤ 1048576 → b.length ≤ 1048576 → (∀ x ∈ a, p64s x) → (∀ x ∈ b, p64s x) →
  Calls Tryd.prog g #[va, vb] W fun e w' => e = .returned (.int .i64 (mvZ a b)) ∧ Below W.heap.size W w'
def CPa (g : FuncId) (w : World) : Prop := ∀ (va : Value) (ll : List (List Pt)) (W : World), Below w.heap.size w W → StkR W va ll → ll.length ≤ 1048576 → (∀ l ∈ ll, l.length ≤ 1048576) → (∀ l ∈ ll, ∀ x ∈ l, p64s x) →
  Calls Tryd.prog g #[va] W (RowOut 39 2 (paZ ll).length (tnC (paZ ll)) W)
theorem CSt.to {g : FuncId} {w wd : World} (h : CSt g w) (hb : Below w.heap.size w wd) : CSt g wd := fun va l W hW => h va l W (btr hb hW)
theorem CMv.to {g : FuncId} {w wd : World} (h : CMv g w) (hb : Below w.heap.size w wd) : CMv g wd := fun va vb a b W hW => h va vb a b W (btr hb hW)
theorem CPa.to {g : FuncId} {w wd : World} (h : CPa g w) (hb : Below w.heap.size w wd) : CPa g wd := fun va ll W hW => h va ll W (btr hb hW)
theorem CSt.is {g : FuncId} {w : World} (h : CSt g w) {l : List Pt} {n : Nat} {z : Int} (hm : l.length = n) (hn : n ≤ 1048576) (hr : ∀ x ∈ l, p64s x) (hz : stZ l = z) (va : Value) (W : World) (hW : Below w.heap.size w W) (hs : SlAt W va n 3 (pcC l)) :
    Calls Tryd.prog g #[va] W fun e w' => e = .returned (.int .i64 z) ∧ Below W.heap.size W w' := by
  subst hm hz; exact h va l W hW hs hn hr
theorem CMv.is {g : FuncId} {w : World} (h : CMv g w) {a b : List Pt} {n m : Nat} {z : Int} (hn : a.length = n) (hm : b.length = m) (hn9 : n ≤ 1048576) (hm9 : m ≤ 1048576) (hr : ∀ x ∈ a, p64s x) (hr' : ∀ x ∈ b, p64s x) (hz : mvZ a b = z) (va vb : Value) (W : World) (hW : Below w.heap.size w W) (hs : SlAt W va n 3 (pcC a)) (ht : SlAt W vb m 3 (pcC b)) :
    Calls Tryd.prog g #[va, vb] W fun e w' => e = .returned (.int .i64 z) ∧ Below W.heap.size W w' := by
  subst hn hm hz; exact h va vb a b W hW hs ht hn9 hm9 hr hr'
theorem CPa.is {g : FuncId} {w : World} (h : CPa g w) {ll : List (List Pt)} {us : List (Int × Int)} {k : Nat} (hn : ll.length ≤ 1048576) (hle : ∀ l ∈ ll, l.length ≤ 1048576) (hr : ∀ l ∈ ll, ∀ x ∈ l, p64s x) (hu : paZ ll = us) (hk : us.length = k) (va : Value) (W : World) (hW : Below w.heap.size w W) (hs : StkR W va ll) :
    Calls Tryd.prog g #[va] W (RowOut 39 2 k (tnC us) W) := by
  subst hu hk; exact h va ll W hW hs hn hle hr

theorem stS_C (w : World) : CSt 11 w := fun va l W _ hs hn _ => stS_any va l W hs hn
end Go.Proofs.YtcmhfjpofkgjbaaDoor
