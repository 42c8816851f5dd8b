/- The laws' own functions over slices of pitches: equal ones are found equal; marks are laid and found. -/
import Derived.Test.YtcgcnkddgihkpaaDoorOwn
import Derived.Test.YtcgcnkddgihkpaaDoorWalks1
import Derived.Test.YtcgcnkddgihkpaaDoorRegionD
namespace Go.Proofs.YtcgcnkddgihkpaaDoor
set_option linter.unusedSimpArgs false
set_option linter.unusedVariables false
set_option maxRecDepth 8000
open Go.RowKit

/-- All cells are numbers. -/
def AllInt (xs : List Value) : Prop := ∀ (j : Nat) (u : Value), xs[j]? = some u → ∃ z : Int, u = Value.int .i64 z
theorem AllInt.at {xs : List Value} (h : AllInt xs) {j : Nat} (hj : j < xs.length) : ∃ z : Int, xs[j]? = some (Value.int .i64 z) := by
  obtain ⟨z, hz⟩ := h j _ (List.getElem?_eq_getElem hj)
  exact ⟨z, by rw [List.getElem?_eq_getElem hj, hz]⟩

theorem SlAt.form {w : World} {v : Value} {k size : Nat} {xs : List Value} (h : SlAt w v k size xs) : ∃ a c, v = .slice a k c := by
  rcases h.2 with ⟨rfl, rfl⟩ | ⟨b, off, cap, rfl, _⟩
  · exact ⟨_, _, rfl⟩
  · exact ⟨_, _, rfl⟩
theorem SlAt.some {w : World} {v : Value} {k size : Nat} {xs : List Value} (h : SlAt w v k size xs) (hk : 0 < k) : ∃ b off cap, v = .slice (some ⟨b, off, none⟩) k cap ∧ k ≤ cap ∧ cap ≤ maxLen ∧ b < w.heap.size ∧ ∀ j u, xs[j]? = some u → w.cell? ⟨b, off + j, none⟩ = some u := by
  rcases h.2 with ⟨_, rfl⟩ | h
  · omega
  · exact h

/-- The first m cells are numbered on from k. -/
def mkTo (k : Int) : Nat → List Value → List Value
  | 0, xs => xs
  | m + 1, xs => (mkTo k m xs).set m (.int .i64 (k + m))
theorem mkTo_length (k : Int) : ∀ (m : Nat) (xs : List Value), (mkTo k m xs).length = xs.length
  | 0, _ => rfl
  | m + 1, xs => by rw [mkTo, List.length_set, mkTo_length k m xs]
theorem mkTo_get (k : Int) : ∀ (m : Nat) (xs : List Value) (i : Nat), i < m → i < xs.length → (mkTo k m xs)[i]? = some (Value.int .i64 (k + i))
  | 0, _, _, h, _ => by omega
  | m + 1, xs, i, h, hl => by
    rw [mkTo]
    by_cases e : i = m
    · subst e
      rw [List.getElem?_set_self (by rw [mkTo_length]; exact hl)]
    · rw [List.getElem?_set_ne (by omega), mkTo_get k m xs i (by omega) hl]
/-- All cells are numbered on from k. -/
def Marked (k : Int) (xs : List Value) : Prop := ∀ i : Nat, i < xs.length → xs[i]? = some (Value.int .i64 (k + i))
theorem mkTo_all (k : Int) (xs : List Value) : Marked k (mkTo k xs.length xs) := fun i hi => by
  rw [mkTo_length] at hi
  exact mkTo_get k _ xs i hi hi

theorem grownBy_refl (w : World) (r : Option Nat) : w.grownBy w r := ⟨rfl, rfl, rfl, Nat.le_refl _, fun _ _ _ => rfl⟩
theorem grownBy_set3 {w w' : World} {g : Nat} (h : w.grownBy w' (some g)) (i : Nat) (u : Value) : w.grownBy (w'.setCell ⟨g, i, none⟩ u) (some g) :=
  ⟨h.os, h.tape, h.output, by simpa [World.setCell] using h.size, fun k hk hne => by rw [Below.heap_setCell _ _ _ _ (fun e => hne (by rw [e]))]; exact h.block k hk hne⟩
theorem ownsRow_set {w : World} {n : Nat} {e : TypeId} {size g k c : Nat} {xs : List Value} (h : w.ownsRow n e size (.slice (some ⟨g, 0, none⟩) k c) k xs) (i : Nat) (u : Value) : (w.setCell ⟨g, i, none⟩ u).ownsRow n e size (.slice (some ⟨g, 0, none⟩) k c) k (xs.set i u) := by
  have := Item.Holds.set (n := n) (w := w) (b := g) (i := i) (u := u) (x := .row e size (.slice (some ⟨g, 0, none⟩) k c) k xs) h
  simp only [updI, Value.ownBlock, if_true] at this
  exact this
theorem ownsRow_frozen {w : World} {n : Nat} {e : TypeId} {size g k c : Nat} {xs : List Value} (h : w.ownsRow n e size (.slice (some ⟨g, 0, none⟩) k c) k xs) (i : Nat) : w.frozen? ⟨g, i, none⟩ = false := by
  rcases h.2 with ⟨h2, _⟩ | ⟨g', cap, cur, h3, h4, h5, _⟩
  · cases h2
  · cases h3
    simp [World.frozen?, h5]
theorem ownsRow_cell {w : World} {n : Nat} {e : TypeId} {size g k c : Nat} {xs : List Value} (h : w.ownsRow n e size (.slice (some ⟨g, 0, none⟩) k c) k xs) {i : Nat} {u : Value} (hu : xs[i]? = some u) : w.cell? ⟨g, i, none⟩ = some u := by
  have := h.cells (g := g) rfl i u hu
  rwa [add_flat] at this

/-- What laying marks leaves. -/
def MarkOut (n : Nat) (e : TypeId) (v : Value) (k : Nat) (k0 : Int) (xs : List Value) (w : World) (e' : Ending) (w' : World) : Prop :=
  e' = .returned (.int .i64 (k0 + xs.length)) ∧ w.grownBy w' v.ownBlock ∧ w'.ownsRow n e 3 v k (mkTo k0 xs.length xs)

theorem own_mark {P : Program} {f : FuncId} {args : Array Value} {n : Nat} {B : World → Prop} {W : World} {L : List Item} {e : TypeId} {v : Value} {k : Nat} {k0 : Int} {xs : List Value} {K : Ending → World → Prop}
    (hO : Own n B W (.row e 3 v k xs :: L)) (h : W.ownsRow n e 3 v k xs → Calls P f args W (MarkOut n e v k k0 xs W)) (k' : ∀ w1, Own n B w1 (.row e 3 v k (mkTo k0 xs.length xs) :: L) → K (.returned (.int .i64 (k0 + xs.length))) w1) : Calls P f args W K :=
  (h hO.1.1).mono fun e' w' ⟨he, hg, hr⟩ => by subst he; exact k' w' (hO.regrown hg hr (Or.inl rfl))

/- The laws' samePitches: equal slices are found equal; elements of a row that is owned. -/
open Go.RowKit

/- The laws' own functions over slices of integers: equal ones are found equal; marks are laid and found. -/
open Go.RowKit

/-- What laying marks into integers leaves. -/
def MarkOut1 (n : Nat) (e : TypeId) (v : Value) (k : Nat) (k0 : Int) (xs : List Value) (w : World) (e' : Ending) (w' : World) : Prop :=
  e' = .returned (.int .i64 (k0 + xs.length)) ∧ w.grownBy w' v.ownBlock ∧ w'.ownsRow n e 1 v k (mkTo k0 xs.length xs)

theorem ownsRow_set1 {w : World} {n : Nat} {e : TypeId} {size g k c : Nat} {xs : List Value} (h : w.ownsRow n e size (.slice (some ⟨g, 0, none⟩) k c) k xs) (i : Nat) (u : Value) : (w.setCell ⟨g, i, none⟩ u).ownsRow n e size (.slice (some ⟨g, 0, none⟩) k c) k (xs.set i u) := by
  have := Item.Holds.set (n := n) (w := w) (b := g) (i := i) (u := u) (x := .row e size (.slice (some ⟨g, 0, none⟩) k c) k xs) h
  simp only [updI, Value.ownBlock, if_true] at this
  exact this

theorem own_mark1 {P : Program} {f : FuncId} {args : Array Value} {n : Nat} {B : World → Prop} {W : World} {L : List Item} {e : TypeId} {v : Value} {k : Nat} {k0 : Int} {xs : List Value} {K : Ending → World → Prop}
    (hO : Own n B W (.row e 1 v k xs :: L)) (h : W.ownsRow n e 1 v k xs → Calls P f args W (MarkOut1 n e v k k0 xs W)) (k' : ∀ w1, Own n B w1 (.row e 1 v k (mkTo k0 xs.length xs) :: L) → K (.returned (.int .i64 (k0 + xs.length))) w1) : Calls P f args W K :=
  (h hO.1.1).mono fun e' w' ⟨he, hg, hr⟩ => by subst he; exact k' w' (hO.regrown hg hr (Or.inl rfl))