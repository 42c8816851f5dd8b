/- Two named variables of a specification: their data are two. No program in it. -/
import Derived.Test.YtllcokbnjlodbaaDoorLaw
namespace Go.Proofs.YtllcokbnjlodbaaDoor
set_option linter.unusedSimpArgs false
set_option linter.unusedVariables false
open Go.ChangeShapes Go.WideShapes Go.ChangeAt Go.RowKit Go.Joins

theorem vars_two {H : Type} {enc : TypeId × Value → H} {P : Program} {w : World} {spare : Nat → Bool} {n m : String} {gs : List (DataW H)} {ps : List MemPlace}
    (h : DataW.TrodVars enc P w spare [n, m] gs ps) : ∃ d e, gs = [d, e] := by
  match gs, h with
  | [], h => cases h
  | [d], h =>
    obtain ⟨_, _, _, _, _, _, _, _, _, _, h2, _⟩ := h
    cases h2
  | [d, e], _ => exact ⟨d, e, rfl⟩
  | d :: e :: x :: xs, h =>
    obtain ⟨_, _, _, _, _, _, _, _, _, _, h2, _⟩ := h
    obtain ⟨_, _, _, _, _, _, _, _, _, _, h3, _⟩ := h2
    cases h3
end Go.Proofs.YtllcokbnjlodbaaDoor
