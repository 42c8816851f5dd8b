/- What a call owns, in part; what is owned, at an operation. No program in it. -/
import Derived.Test.YtepelgaekgllcaaDoorOwnRows
namespace Go.Proofs.YtepelgaekgllcaaDoor
set_option linter.unusedSimpArgs false
set_option linter.unusedVariables false
open Go.RowKit

/-- Some of what is owned, in its order. -/
theorem Own.sub {n : Nat} {B : World → Prop} {w : World} : ∀ {L' L : List Item}, L'.Sublist L → Own n B w L → Own n B w L'
  | _, _, .slnil, h => h
  | _, _, .cons _ s, h => Own.sub s h.2
  | _, _, .cons_cons _ s, h => ⟨⟨h.1.1, fun x hx => h.1.2 x (s.subset hx)⟩, Own.sub s h.2⟩
theorem Own.cast {n : Nat} {B : World → Prop} {w : World} {L L' : List Item} (h : Own n B w L) (e : L = L') : Own n B w L' := e ▸ h
theorem own_list {P : Program} {ops : Array Oper} {rest : List Oper} {Q : Exit → Act → World → Prop} {a : Act} {n : Nat} {B : World → Prop} {W : World} {L L0 : List Item} {W0 : World}
    (_ : Own n B W0 L0) (hO : Own n B W L) (k : Own n B W L → wpList P ops Q rest a W) : wpList P ops Q rest a W := k hO

/-- A call that hands back a slice of its own and a flag. -/
def RowOutB (e : TypeId) (size k : Nat) (xs : List Value) (b : Bool) (w : World) (e' : Ending) (w' : World) : Prop := ∃ v, e' = .returned (.tuple #[v, .bool b]) ∧ w'.ownsRow w.heap.size e size v k xs ∧ Below w.heap.size w w'
theorem RowOutB.mk {e : TypeId} {size k : Nat} {xs : List Value} {b : Bool} {w w' : World} {v : Value} {L : List Item} (hO : Own w.heap.size (Below w.heap.size w) w' (.row e size v k xs :: L)) : RowOutB e size k xs b w (.returned (.tuple #[v, .bool b])) w' := ⟨v, rfl, hO.1.1, hO.base⟩
theorem own_call_rowB {P : Program} {f : FuncId} {args : Array Value} {n : Nat} {B : World → Prop} {W : World} {L : List Item} {e : TypeId} {size k : Nat} {xs : List Value} {b : Bool} {K : Ending → World → Prop}
    (hO : Own n B W L) (h : B W → Calls P f args W (RowOutB e size k xs b W)) (k' : ∀ v w1, Own n B w1 (.row e size v k xs :: L) → K (.returned (.tuple #[v, .bool b])) w1) : Calls P f args W K :=
  (h hO.base).mono fun e' w' ⟨v, he, hr, hb⟩ => by subst he; exact k' v w' (hO.addRow hb hr)
end Go.Proofs.YtepelgaekgllcaaDoor
