/-
  DERIVED. GIVEN WITH THE SEED: THE PROGRAM's TIES (one call each: nine closed facts by the kernel) AND EACH ROW's TIE, after the 31st guide's Derived/Test/Toyas{Tie, Card}.lean. No idea stands in it: it is a product of the set-up. Laid BY PROGRAM, IN A SANDBOX (cutbox-door.mjs). By AI agents, Wed Nov 11 2026. No macro, syntax, notation, axiom, sorry.
-/
import Derived.Test.YtikkcehjfcfcdaaDoorRows
import Derived.LaidByTextLater
import Derived.SevenTiedAt
import Derived.LaidSub
import Derived.LaidOnce
namespace Go.Proofs.YtikkcehjfcfcdaaDoor
open Go
set_option maxRecDepth 100000
theorem seatTie1 : Tryd.prog.laidByTextLater [("math/bits.deBruijn32tab", Rows.laid_math_bits_deBruijn32tab), ("loop.example/musicengine/impl.kindClasses", Rows.laid_loop_example_musicengine_impl_kindClasses), ("loop.example/musicengine/impl.stepHalves", Rows.laid_loop_example_musicengine_impl_stepHalves)] [.data, .wider, .data] true :=
  Program.laidByTextLater_by_one 24 8 33 (by kernel_rfl) (by kernel_rfl) (by kernel_rfl) (by kernel_rfl) (by kernel_rfl) (by kernel_rfl) (fun _ _ => by kernel_rfl)
theorem noOwnUnsafe : Tryd.pinned.checked.prog.headLifts.contains "ownunsafe" = false := by kernel_rfl
theorem tie : Tryd.prog.laidByTextLater [("math/bits.deBruijn32tab", Rows.laid_math_bits_deBruijn32tab), ("loop.example/musicengine/impl.kindClasses", Rows.laid_loop_example_musicengine_impl_kindClasses), ("loop.example/musicengine/impl.stepHalves", Rows.laid_loop_example_musicengine_impl_stepHalves)] [.data, .wider, .data] true :=
  Program.laidByTextLater.sub seatTie1 ["math/bits.deBruijn32tab", "loop.example/musicengine/impl.kindClasses", "loop.example/musicengine/impl.stepHalves"] (by kernel_rfl) (by kernel_rfl)
theorem fnNameChord_row_tie : Rows.fnNameChordRow.laidByTextAt .later Tryd.pinned [.data, .wider, .data] true :=
  OpenClaim.laidByTextAt_later rfl rfl tie noOwnUnsafe
theorem fnExactNameChord_row_tie : Rows.fnExactNameChordRow.laidByTextAt .later Tryd.pinned [.data, .wider, .data] true :=
  OpenClaim.laidByTextAt_later rfl rfl tie noOwnUnsafe
theorem fnNameChordUpto_row_tie : Rows.fnNameChordUptoRow.laidByTextAt .later Tryd.pinned [.data, .wider, .data] true :=
  OpenClaim.laidByTextAt_later rfl rfl tie noOwnUnsafe
theorem fnExactNameChordUpto_row_tie : Rows.fnExactNameChordUptoRow.laidByTextAt .later Tryd.pinned [.data, .wider, .data] true :=
  OpenClaim.laidByTextAt_later rfl rfl tie noOwnUnsafe
end Go.Proofs.YtikkcehjfcfcdaaDoor
