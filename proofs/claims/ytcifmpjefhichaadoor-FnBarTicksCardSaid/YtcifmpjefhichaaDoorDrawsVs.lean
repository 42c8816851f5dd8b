/- The functions that draw for a law of chapter 5: notes; voices. -/
import Derived.Test.YtcifmpjefhichaaDoorDrawsVo
import Derived.Test.YtcifmpjefhichaaDoorWalksWay
import Derived.Test.YtcifmpjefhichaaDoorWalksDrawP
namespace Go.Proofs.YtcifmpjefhichaaDoor
set_option linter.unusedSimpArgs false
set_option linter.unusedVariables false
open Go.RowKit

/-- What drawing a note for a law leaves; a voice; a voice and an interval; a voice and a tick. -/
def DrewNo (w : World) (e : Ending) (w' : World) : Prop :=
  ∃ x : Nt, ntOk x ∧ e = .returned (.agg #[.bool x.r, .int .i64 x.s, .int .i64 x.a, .int .i64 x.o, .int .i64 x.t, .bool x.y]) ∧ Below w.heap.size w w'
def DrewVs (w : World) (e : Ending) (w' : World) : Prop :=
  ∃ (u : Value) (v : List Nt), (∀ x ∈ v, ntOk x) ∧ v.length ≤ 61 ∧ e = .returned u ∧ Own w.heap.size (Below w.heap.size w) w' [.row 46 6 u v.length (vcC v)]
def DrewVi (w : World) (e : Ending) (w' : World) : Prop :=
  ∃ (u : Value) (v : List Nt) (st ha : Int), (∀ x ∈ v, ntOk x) ∧ v.length ≤ 61 ∧ (-100 ≤ st ∧ st ≤ 100) ∧ (-9223372036854775807 ≤ ha ∧ ha ≤ 9223372036854775807) ∧ e = .returned (.tuple #[u, .agg #[.int .i64 st, .int .i64 ha]]) ∧ Own w.heap.size (Below w.heap.size w) w' [.row 46 6 u v.length (vcC v)]
def DrewVt (w : World) (e : Ending) (w' : World) : Prop :=
  ∃ (u : Value) (v : List Nt) (t : Int), (∀ x ∈ v, ntOk x) ∧ v.length ≤ 61 ∧ (-1 ≤ t ∧ t ≤ 9223372036854775807) ∧ e = .returned (.tuple #[u, .int .i64 t]) ∧ Own w.heap.size (Below w.heap.size w) w' [.row 46 6 u v.length (vcC v)]

theorem vs_own {w w1 w2 : World} {r : Nat} {u : Value} {v : List Nt} (hb : Below w.heap.size w w1) (hr : w.heap.size ≤ r) (hB : ButR r w1 w2) (ho : w2.ownsRow w1.heap.size 46 6 u v.length (vcC v)) : Own w.heap.size (Below w.heap.size w) w2 [.row 46 6 u v.length (vcC v)] :=
  ⟨⟨ownsRow_mono ho hb.size, fun _ h => by cases h⟩, Stab.plain w, hB.below hb hr⟩

/-- A row that a call has made joins what is owned. -/
theorem Own.joinRow {n b : Nat} {B : World → Prop} {w : World} {L : List Item} {e : TypeId} {size : Nat} {v : Value} {k : Nat} {xs : List Value} (h : Own n B w L) (hr : w.ownsRow b e size v k xs) (hnb : n ≤ b) (hb : ∀ x ∈ L, ∀ g, x.at? = some g → g < b) : Own n B w (.row e size v k xs :: L) :=
  ⟨⟨ownsRow_mono hr hnb, fun x hx => .of fun g hg e => by
    have h1 := hb x hx g hg
    have h2 := (World.ownsRow.lt hr g e).1
    omega⟩, h⟩