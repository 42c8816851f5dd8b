/- Two named variables of a specification: their data are two. No program in it. -/
import Derived.Test.YtcifmpjefhichaaDoorLaw
namespace Go.Proofs.YtcifmpjefhichaaDoor
set_option linter.unusedSimpArgs false
set_option linter.unusedVariables false
open Go.ChangeShapes Go.WideShapes Go.ChangeAt Go.RowKit Go.Joins

theorem vars_two {H : Type} {enc : TypeId × Value → H} {P : Program} {w : World} {spare : Nat → Bool} {n m : String} {gs : List (DataW H)} {ps : List MemPlace}
    (h : DataW.TrodVars enc P w spare [n, m] gs ps) : ∃ d e, gs = [d, e] := by
  match gs, h with
  | [], h => cases h
  | [d], h =>
    obtain ⟨_, _, _, _, _, _, _, _, _, _, h2, _⟩ := h
    cases h2
  | [d, e], _ => exact ⟨d, e, rfl⟩
  | d :: e :: x :: xs, h =>
    obtain ⟨_, _, _, _, _, _, _, _, _, _, h2, _⟩ := h
    obtain ⟨_, _, _, _, _, _, _, _, _, _, h3, _⟩ := h2
    cases h3
theorem vars_cons {H : Type} {enc : TypeId × Value → H} {P : Program} {w : World} {spare : Nat → Bool} {n : String} {ns : List String} {gs : List (DataW H)} {ps : List MemPlace}
    (h : DataW.TrodVars enc P w spare (n :: ns) gs ps) : ∃ d ds q, gs = d :: ds ∧ DataW.TrodVars enc P w spare ns ds q := by
  match gs, h with
  | [], h => cases h
  | d :: ds, h =>
    obtain ⟨_, _, _, _, _, q, _, _, _, _, h2, _⟩ := h
    exact ⟨d, ds, q, rfl, h2⟩
theorem vars_three {H : Type} {enc : TypeId × Value → H} {P : Program} {w : World} {spare : Nat → Bool} {n m l : String} {gs : List (DataW H)} {ps : List MemPlace}
    (h : DataW.TrodVars enc P w spare [n, m, l] gs ps) : ∃ d e f, gs = [d, e, f] := by
  obtain ⟨d, ds, q, rfl, h2⟩ := vars_cons h
  obtain ⟨e, f, rfl⟩ := vars_two h2
  exact ⟨d, e, f, rfl⟩
end Go.Proofs.YtcifmpjefhichaaDoor
