/-
  DERIVED. GIVEN WITH THE SEED: THE PROGRAM's TIES (one call each: nine closed facts by the kernel) AND EACH ROW's TIE, after the 31st guide's Derived/Test/Toyas{Tie, Card}.lean. No idea stands in it: it is a product of the set-up. Laid BY PROGRAM, IN A SANDBOX (cutbox-door.mjs). By AI agents, Wed Nov 11 2026. No macro, syntax, notation, axiom, sorry.
-/
import Derived.Test.YtjfmbklgkmkgjaaDoorRows
import Derived.LaidByTextLater
import Derived.SevenTiedAt
import Derived.LaidSub
import Derived.LaidOnce
namespace Go.Proofs.YtjfmbklgkmkgjaaDoor
open Go
set_option maxRecDepth 100000
theorem seatTie1 : Tryd.prog.laidByTextLater [("math/bits.deBruijn32tab", Rows.laid_math_bits_deBruijn32tab), ("loop.example/musicengine/impl.kindClasses", Rows.laid_loop_example_musicengine_impl_kindClasses), ("loop.example/musicengine/impl.stepHalves", Rows.laid_loop_example_musicengine_impl_stepHalves), ("loop.example/musicengine/impl.keyAlters", Rows.laid_loop_example_musicengine_impl_keyAlters)] [.data, .wider, .data, .data] true :=
  Program.laidByTextLater_by_one 44 8 106 (by kernel_rfl) (by kernel_rfl) (by kernel_rfl) (by kernel_rfl) (by kernel_rfl) (by kernel_rfl) (fun _ _ => by kernel_rfl)
theorem noOwnUnsafe : Tryd.pinned.checked.prog.headLifts.contains "ownunsafe" = false := by kernel_rfl
theorem tie : Tryd.prog.laidByTextLater [("math/bits.deBruijn32tab", Rows.laid_math_bits_deBruijn32tab), ("loop.example/musicengine/impl.kindClasses", Rows.laid_loop_example_musicengine_impl_kindClasses), ("loop.example/musicengine/impl.stepHalves", Rows.laid_loop_example_musicengine_impl_stepHalves)] [.data, .wider, .data] true :=
  Program.laidByTextLater.sub seatTie1 ["math/bits.deBruijn32tab", "loop.example/musicengine/impl.kindClasses", "loop.example/musicengine/impl.stepHalves"] (by kernel_rfl) (by kernel_rfl)
theorem fnChordOf_row_tie : Rows.fnChordOfRow.laidByTextAt .later Tryd.pinned [.data, .wider, .data] true :=
  OpenClaim.laidByTextAt_later rfl rfl tie noOwnUnsafe
theorem fnChordTurn_row_tie : Rows.fnChordTurnRow.laidByTextAt .later Tryd.pinned [.data, .wider, .data] true :=
  OpenClaim.laidByTextAt_later rfl rfl tie noOwnUnsafe
theorem fnChordMoved_row_tie : Rows.fnChordMovedRow.laidByTextAt .later Tryd.pinned [.data, .wider, .data] true :=
  OpenClaim.laidByTextAt_later rfl rfl tie noOwnUnsafe
theorem fnExactChordOf_row_tie : Rows.fnExactChordOfRow.laidByTextAt .later Tryd.pinned [.data, .wider, .data] true :=
  OpenClaim.laidByTextAt_later rfl rfl tie noOwnUnsafe
theorem tie2 : Tryd.prog.laidByTextLater [("math/bits.deBruijn32tab", Rows.laid_math_bits_deBruijn32tab), ("loop.example/musicengine/impl.kindClasses", Rows.laid_loop_example_musicengine_impl_kindClasses), ("loop.example/musicengine/impl.stepHalves", Rows.laid_loop_example_musicengine_impl_stepHalves), ("loop.example/musicengine/impl.keyAlters", Rows.laid_loop_example_musicengine_impl_keyAlters)] [.data, .wider, .data, .data] true :=
  Program.laidByTextLater.sub seatTie1 ["math/bits.deBruijn32tab", "loop.example/musicengine/impl.kindClasses", "loop.example/musicengine/impl.stepHalves", "loop.example/musicengine/impl.keyAlters"] (by kernel_rfl) (by kernel_rfl)
theorem fnChordOn_row_tie : Rows.fnChordOnRow.laidByTextAt .later Tryd.pinned [.data, .wider, .data, .data] true :=
  OpenClaim.laidByTextAt_later rfl rfl tie2 noOwnUnsafe
theorem tie3 : Tryd.prog.laidByTextLater [("math/bits.deBruijn32tab", Rows.laid_math_bits_deBruijn32tab), ("loop.example/musicengine/impl.stepHalves", Rows.laid_loop_example_musicengine_impl_stepHalves), ("loop.example/musicengine/impl.keyAlters", Rows.laid_loop_example_musicengine_impl_keyAlters)] [.data, .data, .data] true :=
  Program.laidByTextLater.sub seatTie1 ["math/bits.deBruijn32tab", "loop.example/musicengine/impl.stepHalves", "loop.example/musicengine/impl.keyAlters"] (by kernel_rfl) (by kernel_rfl)
theorem fnDegreeOfChord_row_tie : Rows.fnDegreeOfChordRow.laidByTextAt .later Tryd.pinned [.data, .data, .data] true :=
  OpenClaim.laidByTextAt_later rfl rfl tie3 noOwnUnsafe
theorem tie4 : Tryd.prog.laidByTextLater [("loop.example/musicengine/impl.stepHalves", Rows.laid_loop_example_musicengine_impl_stepHalves)] [.data] true :=
  Program.laidByTextLater.sub seatTie1 ["loop.example/musicengine/impl.stepHalves"] (by kernel_rfl) (by kernel_rfl)
theorem fnProgressionFault_row_tie : Rows.fnProgressionFaultRow.laidByTextAt .later Tryd.pinned [.data] true :=
  OpenClaim.laidByTextAt_later rfl rfl tie4 noOwnUnsafe
theorem fnCadenceOf_row_tie : Rows.fnCadenceOfRow.laidByTextAt .later Tryd.pinned [.data] true :=
  OpenClaim.laidByTextAt_later rfl rfl tie4 noOwnUnsafe
theorem tie5 : Tryd.prog.laidByTextLater [("loop.example/musicengine/impl.keyAlters", Rows.laid_loop_example_musicengine_impl_keyAlters)] [.data] true :=
  Program.laidByTextLater.sub seatTie1 ["loop.example/musicengine/impl.keyAlters"] (by kernel_rfl) (by kernel_rfl)
theorem fnExactChordOn_row_tie : Rows.fnExactChordOnRow.laidByTextAt .later Tryd.pinned [.data] true :=
  OpenClaim.laidByTextAt_later rfl rfl tie5 noOwnUnsafe
theorem fnExactDegreeOfChord_row_tie : Rows.fnExactDegreeOfChordRow.laidByTextAt .later Tryd.pinned [.data] true :=
  OpenClaim.laidByTextAt_later rfl rfl tie5 noOwnUnsafe
theorem fnChordOfUpto_row_tie : Rows.fnChordOfUptoRow.laidByTextAt .later Tryd.pinned [.data, .wider, .data] true :=
  OpenClaim.laidByTextAt_later rfl rfl tie noOwnUnsafe
theorem fnChordOnUpto_row_tie : Rows.fnChordOnUptoRow.laidByTextAt .later Tryd.pinned [.data, .wider, .data, .data] true :=
  OpenClaim.laidByTextAt_later rfl rfl tie2 noOwnUnsafe
theorem fnDegreeOfChordUpto_row_tie : Rows.fnDegreeOfChordUptoRow.laidByTextAt .later Tryd.pinned [.data, .data, .data] true :=
  OpenClaim.laidByTextAt_later rfl rfl tie3 noOwnUnsafe
theorem fnProgressionFaultUpto_row_tie : Rows.fnProgressionFaultUptoRow.laidByTextAt .later Tryd.pinned [.data] true :=
  OpenClaim.laidByTextAt_later rfl rfl tie4 noOwnUnsafe
theorem fnCadenceOfUpto_row_tie : Rows.fnCadenceOfUptoRow.laidByTextAt .later Tryd.pinned [.data] true :=
  OpenClaim.laidByTextAt_later rfl rfl tie4 noOwnUnsafe
theorem fnChordTurnUpto_row_tie : Rows.fnChordTurnUptoRow.laidByTextAt .later Tryd.pinned [.data, .wider, .data] true :=
  OpenClaim.laidByTextAt_later rfl rfl tie noOwnUnsafe
theorem fnChordMovedUpto_row_tie : Rows.fnChordMovedUptoRow.laidByTextAt .later Tryd.pinned [.data, .wider, .data] true :=
  OpenClaim.laidByTextAt_later rfl rfl tie noOwnUnsafe
theorem fnExactChordOfUpto_row_tie : Rows.fnExactChordOfUptoRow.laidByTextAt .later Tryd.pinned [.data, .wider, .data] true :=
  OpenClaim.laidByTextAt_later rfl rfl tie noOwnUnsafe
theorem fnExactChordOnUpto_row_tie : Rows.fnExactChordOnUptoRow.laidByTextAt .later Tryd.pinned [.data] true :=
  OpenClaim.laidByTextAt_later rfl rfl tie5 noOwnUnsafe
theorem fnExactDegreeOfChordUpto_row_tie : Rows.fnExactDegreeOfChordUptoRow.laidByTextAt .later Tryd.pinned [.data] true :=
  OpenClaim.laidByTextAt_later rfl rfl tie5 noOwnUnsafe
end Go.Proofs.YtjfmbklgkmkgjaaDoor
