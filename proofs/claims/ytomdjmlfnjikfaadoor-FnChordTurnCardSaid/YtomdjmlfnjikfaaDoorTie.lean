/-
  DERIVED. GIVEN WITH THE SEED: THE PROGRAM's TIES (one call each: nine closed facts by the kernel) AND EACH ROW's TIE, after the 31st guide's Derived/Test/Toyas{Tie, Card}.lean. No idea stands in it: it is a product of the set-up. Laid BY PROGRAM, IN A SANDBOX (cutbox-door.mjs). By AI agents, Wed Nov 11 2026. No macro, syntax, notation, axiom, sorry.
-/
import Derived.Test.YtomdjmlfnjikfaaDoorRows
import Derived.LaidByTextLater
import Derived.SevenTiedAt
import Derived.LaidSub
import Derived.LaidOnce
namespace Go.Proofs.YtomdjmlfnjikfaaDoor
open Go
set_option maxRecDepth 100000
theorem seatTie1 : Tryd.prog.laidByTextLater [("math/bits.deBruijn32tab", Rows.laid_math_bits_deBruijn32tab), ("loop.example/musicengine/impl.kindClasses", Rows.laid_loop_example_musicengine_impl_kindClasses), ("loop.example/musicengine/impl.stepHalves", Rows.laid_loop_example_musicengine_impl_stepHalves), ("loop.example/musicengine/impl.keyAlters", Rows.laid_loop_example_musicengine_impl_keyAlters)] [.data, .wider, .data, .data] true :=
  Program.laidByTextLater_by_one 44 8 106 (by kernel_rfl) (by kernel_rfl) (by kernel_rfl) (by kernel_rfl) (by kernel_rfl) (by kernel_rfl) (fun _ _ => by kernel_rfl)
theorem noOwnUnsafe : Tryd.pinned.checked.prog.headLifts.contains "ownunsafe" = false := by kernel_rfl
theorem tie : Tryd.prog.laidByTextLater [("math/bits.deBruijn32tab", Rows.laid_math_bits_deBruijn32tab), ("loop.example/musicengine/impl.kindClasses", Rows.laid_loop_example_musicengine_impl_kindClasses), ("loop.example/musicengine/impl.stepHalves", Rows.laid_loop_example_musicengine_impl_stepHalves)] [.data, .wider, .data] true :=
  Program.laidByTextLater.sub seatTie1 ["math/bits.deBruijn32tab", "loop.example/musicengine/impl.kindClasses", "loop.example/musicengine/impl.stepHalves"] (by kernel_rfl) (by kernel_rfl)
theorem fnChordOf_row_tie : Rows.fnChordOfRow.laidByTextAt .later Tryd.pinned [.data, .wider, .data] true :=
  OpenClaim.laidByTextAt_later rfl rfl tie noOwnUnsafe
theorem fnNameChord_row_tie : Rows.fnNameChordRow.laidByTextAt .later Tryd.pinned [.data, .wider, .data] true :=
  OpenClaim.laidByTextAt_later rfl rfl tie noOwnUnsafe
theorem fnChordTurn_row_tie : Rows.fnChordTurnRow.laidByTextAt .later Tryd.pinned [.data, .wider, .data] true :=
  OpenClaim.laidByTextAt_later rfl rfl tie noOwnUnsafe
theorem fnChordMoved_row_tie : Rows.fnChordMovedRow.laidByTextAt .later Tryd.pinned [.data, .wider, .data] true :=
  OpenClaim.laidByTextAt_later rfl rfl tie noOwnUnsafe
theorem fnExactChordOf_row_tie : Rows.fnExactChordOfRow.laidByTextAt .later Tryd.pinned [.data, .wider, .data] true :=
  OpenClaim.laidByTextAt_later rfl rfl tie noOwnUnsafe
theorem fnExactNameChord_row_tie : Rows.fnExactNameChordRow.laidByTextAt .later Tryd.pinned [.data, .wider, .data] true :=
  OpenClaim.laidByTextAt_later rfl rfl tie noOwnUnsafe
theorem tie2 : Tryd.prog.laidByTextLater [("math/bits.deBruijn32tab", Rows.laid_math_bits_deBruijn32tab), ("loop.example/musicengine/impl.stepHalves", Rows.laid_loop_example_musicengine_impl_stepHalves)] [.data, .data] true :=
  Program.laidByTextLater.sub seatTie1 ["math/bits.deBruijn32tab", "loop.example/musicengine/impl.stepHalves"] (by kernel_rfl) (by kernel_rfl)
theorem fnKeyClasses_row_tie : Rows.fnKeyClassesRow.laidByTextAt .later Tryd.pinned [.data, .data] true :=
  OpenClaim.laidByTextAt_later rfl rfl tie2 noOwnUnsafe
theorem fnExactKeyClasses_row_tie : Rows.fnExactKeyClassesRow.laidByTextAt .later Tryd.pinned [.data, .data] true :=
  OpenClaim.laidByTextAt_later rfl rfl tie2 noOwnUnsafe
theorem tie3 : Tryd.prog.laidByTextLater [("math/bits.deBruijn32tab", Rows.laid_math_bits_deBruijn32tab), ("loop.example/musicengine/impl.stepHalves", Rows.laid_loop_example_musicengine_impl_stepHalves), ("loop.example/musicengine/impl.keyAlters", Rows.laid_loop_example_musicengine_impl_keyAlters)] [.data, .data, .data] true :=
  Program.laidByTextLater.sub seatTie1 ["math/bits.deBruijn32tab", "loop.example/musicengine/impl.stepHalves", "loop.example/musicengine/impl.keyAlters"] (by kernel_rfl) (by kernel_rfl)
theorem fnMinorMajor_row_tie : Rows.fnMinorMajorRow.laidByTextAt .later Tryd.pinned [.data, .data, .data] true :=
  OpenClaim.laidByTextAt_later rfl rfl tie3 noOwnUnsafe
theorem fnChordOfUpto_row_tie : Rows.fnChordOfUptoRow.laidByTextAt .later Tryd.pinned [.data, .wider, .data] true :=
  OpenClaim.laidByTextAt_later rfl rfl tie noOwnUnsafe
theorem fnNameChordUpto_row_tie : Rows.fnNameChordUptoRow.laidByTextAt .later Tryd.pinned [.data, .wider, .data] true :=
  OpenClaim.laidByTextAt_later rfl rfl tie noOwnUnsafe
theorem fnKeyClassesUpto_row_tie : Rows.fnKeyClassesUptoRow.laidByTextAt .later Tryd.pinned [.data, .data] true :=
  OpenClaim.laidByTextAt_later rfl rfl tie2 noOwnUnsafe
theorem fnMinorMajorUpto_row_tie : Rows.fnMinorMajorUptoRow.laidByTextAt .later Tryd.pinned [.data, .data, .data] true :=
  OpenClaim.laidByTextAt_later rfl rfl tie3 noOwnUnsafe
theorem fnChordTurnUpto_row_tie : Rows.fnChordTurnUptoRow.laidByTextAt .later Tryd.pinned [.data, .wider, .data] true :=
  OpenClaim.laidByTextAt_later rfl rfl tie noOwnUnsafe
theorem fnChordMovedUpto_row_tie : Rows.fnChordMovedUptoRow.laidByTextAt .later Tryd.pinned [.data, .wider, .data] true :=
  OpenClaim.laidByTextAt_later rfl rfl tie noOwnUnsafe
theorem fnExactChordOfUpto_row_tie : Rows.fnExactChordOfUptoRow.laidByTextAt .later Tryd.pinned [.data, .wider, .data] true :=
  OpenClaim.laidByTextAt_later rfl rfl tie noOwnUnsafe
theorem fnExactNameChordUpto_row_tie : Rows.fnExactNameChordUptoRow.laidByTextAt .later Tryd.pinned [.data, .wider, .data] true :=
  OpenClaim.laidByTextAt_later rfl rfl tie noOwnUnsafe
theorem fnExactKeyClassesUpto_row_tie : Rows.fnExactKeyClassesUptoRow.laidByTextAt .later Tryd.pinned [.data, .data] true :=
  OpenClaim.laidByTextAt_later rfl rfl tie2 noOwnUnsafe
end Go.Proofs.YtomdjmlfnjikfaaDoor
