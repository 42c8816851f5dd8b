/- What the functions of chapter 17 answer, as contracts. -/
import Derived.Test.YtcgcnkddgihkpaaDoorPure17
import Derived.Test.YtcgcnkddgihkpaaDoorWalksNS
import Derived.Test.YtcgcnkddgihkpaaDoorCon5H
namespace Go.Proofs.YtcgcnkddgihkpaaDoor
set_option linter.unusedSimpArgs false
set_option linter.unusedVariables false
set_option maxRecDepth 8000
open Go.RowKit

def CRa (g : FuncId) (w : World) : Prop := ∀ (va : Value) (v : List Nt) (W : World), Below w.heap.size w W → SlAt W va v.length 6 (vcC v) → v.length ≤ 1048576 →
  Calls Tryd.prog g #[va] W (RowOutB 39 6 (shL v 4 7).length (vcC (shL v 4 7)) (shB v 4 7) W)
def CTa (g : FuncId) (w : World) : Prop := ∀ (f : Int) (m : Bool) (va : Value) (v : List Nt) (h : Int) (W : World), Below w.heap.size w W → SlAt W va v.length 6 (vcC v) → v.length ≤ 1048576 → r64 f → r64 h →
  Calls Tryd.prog g #[.int .i64 f, .bool m, va, .int .i64 h] W (RowOutB 39 6 (taL f m v h).length (vcC (taL f m v h)) (taB f m v h) W)
def CAh (g : FuncId) (w : World) : Prop := ∀ (f : Int) (m : Bool) (va vb : Value) (a b : List Nt) (W : World), Below w.heap.size w W → SlAt W va a.length 6 (vcC a) → SlAt W vb b.length 6 (vcC b) → a.length ≤ 1048576 → b.length ≤ 1048576 → r64 f →
  Calls Tryd.prog g #[.int .i64 f, .bool m, va, vb] W fun e w' => e = .returned (.int .i64 (ahZ f m a b)) ∧ Below W.heap.size W w'
theorem CRa.to {g : FuncId} {w wd : World} (h : CRa g w) (hb : Below w.heap.size w wd) : CRa g wd := fun va v W hW => h va v W (btr hb hW)
theorem CTa.to {g : FuncId} {w wd : World} (h : CTa g w) (hb : Below w.heap.size w wd) : CTa g wd := fun f m va v k W hW => h f m va v k W (btr hb hW)
theorem CAh.to {g : FuncId} {w wd : World} (h : CAh g w) (hb : Below w.heap.size w wd) : CAh g wd := fun f m va vb a b W hW => h f m va vb a b W (btr hb hW)
theorem CRa.is {g : FuncId} {w : World} (h : CRa g w) {v u : List Nt} {b : Bool} {n k : Nat} (hl : v.length = n) (hn : n ≤ 1048576) (hu : shL v 4 7 = u) (hk : u.length = k) (hb : shB v 4 7 = b) (va : Value) (W : World) (hW : Below w.heap.size w W) (hs : SlAt W va n 6 (vcC v)) :
    Calls Tryd.prog g #[va] W (RowOutB 39 6 k (vcC u) b W) := by
  subst hl hk hu hb; exact h va v W hW hs hn
theorem CTa.is {g : FuncId} {w : World} (h : CTa g w) {v u : List Nt} {f i : Int} {m b : Bool} {n k : Nat} (hl : v.length = n) (hn : n ≤ 1048576) (r1 : r64 f) (r2 : r64 i) (hu : taL f m v i = u) (hk : u.length = k) (hb : taB f m v i = b) (va : Value) (W : World) (hW : Below w.heap.size w W) (hs : SlAt W va n 6 (vcC v)) :
    Calls Tryd.prog g #[.int .i64 f, .bool m, va, .int .i64 i] W (RowOutB 39 6 k (vcC u) b W) := by
  subst hl hk hu hb; exact h f m va v i W hW hs hn r1 r2
theorem CAh.is {g : FuncId} {w : World} (h : CAh g w) {a b : List Nt} {f z : Int} {m : Bool} {n k : Nat} (ha : a.length = n) (hb : b.length = k) (hn : n ≤ 1048576) (hk : k ≤ 1048576) (r1 : r64 f) (hz : ahZ f m a b = z) (va vb : Value) (W : World) (hW : Below w.heap.size w W) (h1 : SlAt W va n 6 (vcC a)) (h2 : SlAt W vb k 6 (vcC b)) :
    Calls Tryd.prog g #[.int .i64 f, .bool m, va, vb] W fun e w' => e = .returned (.int .i64 z) ∧ Below W.heap.size W w' := by
  subst ha hb hz; exact h f m va vb a b W hW h1 h2 hn hk r1
end Go.Proofs.YtcgcnkddgihkpaaDoor
