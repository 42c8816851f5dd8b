/-
  DERIVED. GIVEN WITH THE SEED: THE PROGRAM's TIES (one call each: nine closed facts by the kernel) AND EACH ROW's TIE, after the 31st guide's Derived/Test/Toyas{Tie, Card}.lean. No idea stands in it: it is a product of the set-up. Laid BY PROGRAM, IN A SANDBOX (cutbox-door.mjs). By AI agents, Wed Nov 11 2026. No macro, syntax, notation, axiom, sorry.
-/
import Derived.Test.YtfiodejbeeblgaaDoorRows
import Derived.LaidByTextLater
import Derived.SevenTiedAt
import Derived.LaidSub
import Derived.LaidOnce
namespace Go.Proofs.YtfiodejbeeblgaaDoor
open Go
set_option maxRecDepth 100000
theorem seatTie1 : Tryd.prog.laidByTextLater [("loop.example/musicengine/impl.voiceRanges", Rows.laid_loop_example_musicengine_impl_voiceRanges), ("loop.example/musicengine/impl.stepHalves", Rows.laid_loop_example_musicengine_impl_stepHalves), ("loop.example/musicengine/impl.keyAlters", Rows.laid_loop_example_musicengine_impl_keyAlters)] [.data, .data, .data] true :=
  Program.laidByTextLater_by_one 43 8 106 (by kernel_rfl) (by kernel_rfl) (by kernel_rfl) (by kernel_rfl) (by kernel_rfl) (by kernel_rfl) (fun _ _ => by kernel_rfl)
theorem noOwnUnsafe : Tryd.pinned.checked.prog.headLifts.contains "ownunsafe" = false := by kernel_rfl
theorem tie : Tryd.prog.laidByTextLater [("loop.example/musicengine/impl.stepHalves", Rows.laid_loop_example_musicengine_impl_stepHalves), ("loop.example/musicengine/impl.keyAlters", Rows.laid_loop_example_musicengine_impl_keyAlters)] [.data, .data] true :=
  Program.laidByTextLater.sub seatTie1 ["loop.example/musicengine/impl.stepHalves", "loop.example/musicengine/impl.keyAlters"] (by kernel_rfl) (by kernel_rfl)
theorem fnFigureTones_row_tie : Rows.fnFigureTonesRow.laidByTextAt .later Tryd.pinned [.data, .data] true :=
  OpenClaim.laidByTextAt_later rfl rfl tie noOwnUnsafe
theorem tie2 : Tryd.prog.laidByTextLater [("loop.example/musicengine/impl.voiceRanges", Rows.laid_loop_example_musicengine_impl_voiceRanges), ("loop.example/musicengine/impl.stepHalves", Rows.laid_loop_example_musicengine_impl_stepHalves), ("loop.example/musicengine/impl.keyAlters", Rows.laid_loop_example_musicengine_impl_keyAlters)] [.data, .data, .data] true :=
  Program.laidByTextLater.sub seatTie1 ["loop.example/musicengine/impl.voiceRanges", "loop.example/musicengine/impl.stepHalves", "loop.example/musicengine/impl.keyAlters"] (by kernel_rfl) (by kernel_rfl)
theorem fnRealizeBass_row_tie : Rows.fnRealizeBassRow.laidByTextAt .later Tryd.pinned [.data, .data, .data] true :=
  OpenClaim.laidByTextAt_later rfl rfl tie2 noOwnUnsafe
theorem fnRealizeFault_row_tie : Rows.fnRealizeFaultRow.laidByTextAt .later Tryd.pinned [.data, .data, .data] true :=
  OpenClaim.laidByTextAt_later rfl rfl tie2 noOwnUnsafe
theorem fnBassFirst_row_tie : Rows.fnBassFirstRow.laidByTextAt .later Tryd.pinned [.data, .data, .data] true :=
  OpenClaim.laidByTextAt_later rfl rfl tie2 noOwnUnsafe
theorem fnExactRealizeBass_row_tie : Rows.fnExactRealizeBassRow.laidByTextAt .later Tryd.pinned [.data, .data, .data] true :=
  OpenClaim.laidByTextAt_later rfl rfl tie2 noOwnUnsafe
theorem fnExactRealizeFault_row_tie : Rows.fnExactRealizeFaultRow.laidByTextAt .later Tryd.pinned [.data, .data, .data] true :=
  OpenClaim.laidByTextAt_later rfl rfl tie2 noOwnUnsafe
theorem tie3 : Tryd.prog.laidByTextLater [("loop.example/musicengine/impl.keyAlters", Rows.laid_loop_example_musicengine_impl_keyAlters)] [.data] true :=
  Program.laidByTextLater.sub seatTie1 ["loop.example/musicengine/impl.keyAlters"] (by kernel_rfl) (by kernel_rfl)
theorem fnExactFigureTones_row_tie : Rows.fnExactFigureTonesRow.laidByTextAt .later Tryd.pinned [.data] true :=
  OpenClaim.laidByTextAt_later rfl rfl tie3 noOwnUnsafe
theorem fnFigureTonesUpto_row_tie : Rows.fnFigureTonesUptoRow.laidByTextAt .later Tryd.pinned [.data, .data] true :=
  OpenClaim.laidByTextAt_later rfl rfl tie noOwnUnsafe
theorem fnRealizeBassUpto_row_tie : Rows.fnRealizeBassUptoRow.laidByTextAt .later Tryd.pinned [.data, .data, .data] true :=
  OpenClaim.laidByTextAt_later rfl rfl tie2 noOwnUnsafe
theorem fnRealizeFaultUpto_row_tie : Rows.fnRealizeFaultUptoRow.laidByTextAt .later Tryd.pinned [.data, .data, .data] true :=
  OpenClaim.laidByTextAt_later rfl rfl tie2 noOwnUnsafe
theorem fnBassFirstUpto_row_tie : Rows.fnBassFirstUptoRow.laidByTextAt .later Tryd.pinned [.data, .data, .data] true :=
  OpenClaim.laidByTextAt_later rfl rfl tie2 noOwnUnsafe
theorem fnExactFigureTonesUpto_row_tie : Rows.fnExactFigureTonesUptoRow.laidByTextAt .later Tryd.pinned [.data] true :=
  OpenClaim.laidByTextAt_later rfl rfl tie3 noOwnUnsafe
theorem fnExactRealizeBassUpto_row_tie : Rows.fnExactRealizeBassUptoRow.laidByTextAt .later Tryd.pinned [.data, .data, .data] true :=
  OpenClaim.laidByTextAt_later rfl rfl tie2 noOwnUnsafe
theorem fnExactRealizeFaultUpto_row_tie : Rows.fnExactRealizeFaultUptoRow.laidByTextAt .later Tryd.pinned [.data, .data, .data] true :=
  OpenClaim.laidByTextAt_later rfl rfl tie2 noOwnUnsafe
end Go.Proofs.YtfiodejbeeblgaaDoor
