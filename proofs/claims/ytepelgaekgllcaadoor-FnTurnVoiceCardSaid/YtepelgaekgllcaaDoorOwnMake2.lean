/- A slice that is nil, and make([]T, 0, n), among what a call owns. No program in it. -/
import Derived.Test.YtepelgaekgllcaaDoorOwnMake
namespace Go.Proofs.YtepelgaekgllcaaDoor
set_option linter.unusedSimpArgs false
set_option linter.unusedVariables false
open Go.RowKit

/-- A slice that is nil is a row without elements. -/
theorem Own.nilRow {n : Nat} {B : World → Prop} {w : World} {L : List Item} (e : TypeId) (size : Nat) (h : Own n B w L) : Own n B w (.row e size (.slice none 0 0) 0 [] :: L) :=
  h.addRow (Below.refl _ _) ⟨by simp, .inl ⟨rfl, rfl⟩⟩
/-- 'make([]T, 0, n)': an empty row with room for n stands at the head of what is owned. -/
theorem wpList_make_cap {P : Program} {ops : Array Oper} {rest : List Oper} {o : Oper} {a : Act} {Q : Exit → Act → World → Prop} {n : Nat} {B : World → Prop} {w : World} {L : List Item}
    (hg : o.guard = none) (l c : Operand) (t : TypeId) (hop : o.op = Op.makeSlice t l c) (e : TypeId) (i : TypeInfo) (z : Value) (size bytes : Nat) (h1 : P.underlying t = some (.slice e)) (h2 : P.info? e = some i) (h3 : i.zero = some z) (h4 : i.size = size) (h5 : i.bytes = bytes)
    (kl kc : IntKind) (y : Int) (k : Nat) (hl : a.eval l = .int kl 0) (hc : a.eval c = .int kc y) (hy : y = (k : Int)) (b2 : bytes * k ≤ 281474976710656) (b3 : k ≤ maxLen) (hO : Own n B w L)
    (hK : ∀ q w', Own n B w' (.row e size (.slice (some ⟨q, 0, none⟩) 0 k) 0 [] :: L) → wpList P ops Q rest (a.put o.dst (.slice (some ⟨q, 0, none⟩) 0 k)) w') : wpList P ops Q (o :: rest) a w := by
  subst h5
  refine wpList_make_own w hg l c t hop w.heap.size e i z size h1 h2 h3 h4 kl kc y k hl hc hy b2 b3 (Nat.le_refl _) fun w' hr hgr => hK _ w' ?_
  exact hO.addRow ⟨hgr.os, hgr.tape, hgr.output, hgr.size, fun j hj => hgr.block j hj (by simp)⟩ hr
end Go.Proofs.YtepelgaekgllcaaDoor
