/- What the functions of chapter 16 answer, as contracts. -/
import Derived.Test.YtmkhpafcgobfhaaDoorPure16B
import Derived.Test.YtmkhpafcgobfhaaDoorWalksNS
import Derived.Test.YtmkhpafcgobfhaaDoorIntC
namespace Go.Proofs.YtmkhpafcgobfhaaDoor
set_option linter.unusedSimpArgs false
set_option linter.unusedVariables false
set_option maxRecDepth 8000
open Go.RowKit

def CMt (g : FuncId) (w : World) : Prop := ∀ (va vb : Value) (a b : List Nt) (W : World), Below w.heap.size w W → SlAt W va a.length 6 (vcC a) → SlAt W vb b.length 6 (vcC b) → a.length ≤ 1048576 → b.length ≤ 1048576 →
  Calls Tryd.prog g #[va, vb] W (RowOut 3 1 (mtL a b).length (intC (mtL a b)) W)
def CMf (g : FuncId) (w : World) : Prop := ∀ (va vb : Value) (a b : List Nt) (W : World), Below w.heap.size w W → SlAt W va a.length 6 (vcC a) → SlAt W vb b.length 6 (vcC b) → a.length ≤ 1048576 → b.length ≤ 1048576 →
  Calls Tryd.prog g #[va, vb] W fun e w' => e = .returned (.int .i64 (mfZ a b)) ∧ Below W.heap.size W w'
def CCn (g : FuncId) (w : World) : Prop := ∀ (va : Value) (v : List Nt) (d st ha : Int) (W : World), Below w.heap.size w W → SlAt W va v.length 6 (vcC v) → v.length ≤ 1048576 → r64 d → r64 st → r64 ha →
  Calls Tryd.prog g #[va, .int .i64 d, .agg #[.int .i64 st, .int .i64 ha]] W (RowOutB 53 6 (caL v d st ha).length (vcC (caL v d st ha)) (caB v d st ha) W)
def CIc (g : FuncId) (w : World) : Prop := ∀ (va vb : Value) (a b : List Nt) (W : World), Below w.heap.size w W → SlAt W va a.length 6 (vcC a) → SlAt W vb b.length 6 (vcC b) → a.length ≤ 1048576 → b.length ≤ 1048576 →
  Calls Tryd.prog g #[va, vb] W fun e w' => e = .returned (.bool (icB a b)) ∧ Below W.heap.size W w'
def CCd (g : FuncId) (w : World) : Prop := ∀ (va : Value) (v : List Nt) (d st ha : Int) (W : World), Below w.heap.size w W → SlAt W va v.length 6 (vcC v) → v.length ≤ 1048576 → r64 d → r64 st → r64 ha →
  Calls Tryd.prog g #[va, .int .i64 d, .agg #[.int .i64 st, .int .i64 ha]] W (RowOut 3 1 (cdW v d st ha).length (intC (cdW v d st ha)) W)
theorem CMt.to {g : FuncId} {w wd : World} (h : CMt g w) (hb : Below w.heap.size w wd) : CMt g wd := fun va vb a b W hW => h va vb a b W (btr hb hW)
theorem CMf.to {g : FuncId} {w wd : World} (h : CMf g w) (hb : Below w.heap.size w wd) : CMf g wd := fun va vb a b W hW => h va vb a b W (btr hb hW)
theorem CCn.to {g : FuncId} {w wd : World} (h : CCn g w) (hb : Below w.heap.size w wd) : CCn g wd := fun va v d st ha W hW => h va v d st ha W (btr hb hW)
theorem CIc.to {g : FuncId} {w wd : World} (h : CIc g w) (hb : Below w.heap.size w wd) : CIc g wd := fun va vb a b W hW => h va vb a b W (btr hb hW)
theorem CCd.to {g : FuncId} {w wd : World} (h : CCd g w) (hb : Below w.heap.size w wd) : CCd g wd := fun va v d st ha W hW => h va v d st ha W (btr hb hW)
theorem CMt.is {g : FuncId} {w : World} (h : CMt g w) {a b : List Nt} {u : List Int} {n m k : Nat} (ha : a.length = n) (hb : b.length = m) (hn : n ≤ 1048576) (hm : m ≤ 1048576) (hu : mtL a b = u) (hk : u.length = k) (va vb : Value) (W : World) (hW : Below w.heap.size w W) (h1 : SlAt W va n 6 (vcC a)) (h2 : SlAt W vb m 6 (vcC b)) :
    Calls Tryd.prog g #[va, vb] W (RowOut 3 1 k (intC u) W) := by
  subst ha hb hk hu; exact h va vb a b W hW h1 h2 hn hm
theorem CMf.is {g : FuncId} {w : World} (h : CMf g w) {a b : List Nt} {z : Int} {n m : Nat} (ha : a.length = n) (hb : b.length = m) (hn : n ≤ 1048576) (hm : m ≤ 1048576) (hz : mfZ a b = z) (va vb : Value) (W : World) (hW : Below w.heap.size w W) (h1 : SlAt W va n 6 (vcC a)) (h2 : SlAt W vb m 6 (vcC b)) :
    Calls Tryd.prog g #[va, vb] W fun e w' => e = .returned (.int .i64 z) ∧ Below W.heap.size W w' := by
  subst ha hb hz; exact h va vb a b W hW h1 h2 hn hm
theorem CIc.is {g : FuncId} {w : World} (h : CIc g w) {a b : List Nt} {z : Bool} {n m : Nat} (ha : a.length = n) (hb : b.length = m) (hn : n ≤ 1048576) (hm : m ≤ 1048576) (hz : icB a b = z) (va vb : Value) (W : World) (hW : Below w.heap.size w W) (h1 : SlAt W va n 6 (vcC a)) (h2 : SlAt W vb m 6 (vcC b)) :
    Calls Tryd.prog g #[va, vb] W fun e w' => e = .returned (.bool z) ∧ Below W.heap.size W w' := by
  subst ha hb hz; exact h va vb a b W hW h1 h2 hn hm
theorem CCn.is {g : FuncId} {w : World} (h : CCn g w) {v u : List Nt} {d st ha : Int} {b : Bool} {n k : Nat} (hl : v.length = n) (hn : n ≤ 1048576) (r1 : r64 d) (r2 : r64 st) (r3 : r64 ha) (hu : caL v d st ha = u) (hk : u.length = k) (hb : caB v d st ha = b) (va : Value) (W : World) (hW : Below w.heap.size w W) (hs : SlAt W va n 6 (vcC v)) :
    Calls Tryd.prog g #[va, .int .i64 d, .agg #[.int .i64 st, .int .i64 ha]] W (RowOutB 53 6 k (vcC u) b W) := by
  subst hl hk hu hb; exact h va v d st ha W hW hs hn r1 r2 r3
theorem CCd.is {g : FuncId} {w : World} (h : CCd g w) {v : List Nt} {u : List Int} {d st ha : Int} {n k : Nat} (hl : v.length = n) (hn : n ≤ 1048576) (r1 : r64 d) (r2 : r64 st) (r3 : r64 ha) (hu : cdW v d st ha = u) (hk : u.length = k) (va : Value) (W : World) (hW : Below w.heap.size w W) (hs : SlAt W va n 6 (vcC v)) :
    Calls Tryd.prog g #[va, .int .i64 d, .agg #[.int .i64 st, .int .i64 ha]] W (RowOut 3 1 k (intC u) W) := by
  subst hl hk hu; exact h va v d st ha W hW hs hn r1 r2 r3
end Go.Proofs.YtmkhpafcgobfhaaDoor
