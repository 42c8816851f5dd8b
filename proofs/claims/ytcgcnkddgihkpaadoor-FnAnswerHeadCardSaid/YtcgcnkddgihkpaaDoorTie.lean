/-
  DERIVED. GIVEN WITH THE SEED: THE PROGRAM's TIES (one call each: nine closed facts by the kernel) AND EACH ROW's TIE, after the 31st guide's Derived/Test/Toyas{Tie, Card}.lean. No idea stands in it: it is a product of the set-up. Laid BY PROGRAM, IN A SANDBOX (cutbox-door.mjs). By AI agents, Wed Nov 11 2026. No macro, syntax, notation, axiom, sorry.
-/
import Derived.Test.YtcgcnkddgihkpaaDoorRows
import Derived.LaidByTextLater
import Derived.SevenTiedAt
import Derived.LaidSub
import Derived.LaidOnce
namespace Go.Proofs.YtcgcnkddgihkpaaDoor
open Go
set_option maxRecDepth 100000
theorem seatTie1 : Tryd.prog.laidByTextLater [("loop.example/musicengine/impl.fifthUp", Rows.laid_loop_example_musicengine_impl_fifthUp), ("loop.example/musicengine/impl.fourthUp", Rows.laid_loop_example_musicengine_impl_fourthUp), ("loop.example/musicengine/impl.stepHalves", Rows.laid_loop_example_musicengine_impl_stepHalves), ("loop.example/musicengine/impl.keyAlters", Rows.laid_loop_example_musicengine_impl_keyAlters)] [.data, .data, .data, .data] true :=
  Program.laidByTextLater_by_one 44 8 106 (by kernel_rfl) (by kernel_rfl) (by kernel_rfl) (by kernel_rfl) (by kernel_rfl) (by kernel_rfl) (fun _ _ => by kernel_rfl)
theorem noOwnUnsafe : Tryd.pinned.checked.prog.headLifts.contains "ownunsafe" = false := by kernel_rfl
theorem tie : Tryd.prog.laidByTextLater [("loop.example/musicengine/impl.fifthUp", Rows.laid_loop_example_musicengine_impl_fifthUp), ("loop.example/musicengine/impl.stepHalves", Rows.laid_loop_example_musicengine_impl_stepHalves)] [.data, .data] true :=
  Program.laidByTextLater.sub seatTie1 ["loop.example/musicengine/impl.fifthUp", "loop.example/musicengine/impl.stepHalves"] (by kernel_rfl) (by kernel_rfl)
theorem fnRealAnswer_row_tie : Rows.fnRealAnswerRow.laidByTextAt .later Tryd.pinned [.data, .data] true :=
  OpenClaim.laidByTextAt_later rfl rfl tie noOwnUnsafe
theorem fnAnswerBack_row_tie : Rows.fnAnswerBackRow.laidByTextAt .later Tryd.pinned [.data, .data] true :=
  OpenClaim.laidByTextAt_later rfl rfl tie noOwnUnsafe
theorem fnExactRealAnswer_row_tie : Rows.fnExactRealAnswerRow.laidByTextAt .later Tryd.pinned [.data, .data] true :=
  OpenClaim.laidByTextAt_later rfl rfl tie noOwnUnsafe
theorem tie2 : Tryd.prog.laidByTextLater [("loop.example/musicengine/impl.fifthUp", Rows.laid_loop_example_musicengine_impl_fifthUp), ("loop.example/musicengine/impl.fourthUp", Rows.laid_loop_example_musicengine_impl_fourthUp), ("loop.example/musicengine/impl.stepHalves", Rows.laid_loop_example_musicengine_impl_stepHalves), ("loop.example/musicengine/impl.keyAlters", Rows.laid_loop_example_musicengine_impl_keyAlters)] [.data, .data, .data, .data] true :=
  Program.laidByTextLater.sub seatTie1 ["loop.example/musicengine/impl.fifthUp", "loop.example/musicengine/impl.fourthUp", "loop.example/musicengine/impl.stepHalves", "loop.example/musicengine/impl.keyAlters"] (by kernel_rfl) (by kernel_rfl)
theorem fnTonalAnswer_row_tie : Rows.fnTonalAnswerRow.laidByTextAt .later Tryd.pinned [.data, .data, .data, .data] true :=
  OpenClaim.laidByTextAt_later rfl rfl tie2 noOwnUnsafe
theorem fnAnswerHead_row_tie : Rows.fnAnswerHeadRow.laidByTextAt .later Tryd.pinned [.data, .data, .data, .data] true :=
  OpenClaim.laidByTextAt_later rfl rfl tie2 noOwnUnsafe
theorem fnExactTonalAnswer_row_tie : Rows.fnExactTonalAnswerRow.laidByTextAt .later Tryd.pinned [.data, .data, .data, .data] true :=
  OpenClaim.laidByTextAt_later rfl rfl tie2 noOwnUnsafe
theorem fnExactAnswerHead_row_tie : Rows.fnExactAnswerHeadRow.laidByTextAt .later Tryd.pinned [.data, .data, .data, .data] true :=
  OpenClaim.laidByTextAt_later rfl rfl tie2 noOwnUnsafe
theorem tie3 : Tryd.prog.laidByTextLater [("loop.example/musicengine/impl.stepHalves", Rows.laid_loop_example_musicengine_impl_stepHalves)] [.data] true :=
  Program.laidByTextLater.sub seatTie1 ["loop.example/musicengine/impl.stepHalves"] (by kernel_rfl) (by kernel_rfl)
theorem fnShiftVoice_row_tie : Rows.fnShiftVoiceRow.laidByTextAt .later Tryd.pinned [.data] true :=
  OpenClaim.laidByTextAt_later rfl rfl tie3 noOwnUnsafe
theorem fnShiftTwo_row_tie : Rows.fnShiftTwoRow.laidByTextAt .later Tryd.pinned [.data] true :=
  OpenClaim.laidByTextAt_later rfl rfl tie3 noOwnUnsafe
theorem fnExactShiftVoice_row_tie : Rows.fnExactShiftVoiceRow.laidByTextAt .later Tryd.pinned [.data] true :=
  OpenClaim.laidByTextAt_later rfl rfl tie3 noOwnUnsafe
theorem fnWriteFor_row_tie : Rows.fnWriteForRow.laidByTextAt .later Tryd.pinned [.data] true :=
  OpenClaim.laidByTextAt_later rfl rfl tie3 noOwnUnsafe
theorem fnSoundOf_row_tie : Rows.fnSoundOfRow.laidByTextAt .later Tryd.pinned [.data] true :=
  OpenClaim.laidByTextAt_later rfl rfl tie3 noOwnUnsafe
theorem fnRealAnswerUpto_row_tie : Rows.fnRealAnswerUptoRow.laidByTextAt .later Tryd.pinned [.data, .data] true :=
  OpenClaim.laidByTextAt_later rfl rfl tie noOwnUnsafe
theorem fnTonalAnswerUpto_row_tie : Rows.fnTonalAnswerUptoRow.laidByTextAt .later Tryd.pinned [.data, .data, .data, .data] true :=
  OpenClaim.laidByTextAt_later rfl rfl tie2 noOwnUnsafe
theorem fnAnswerHeadUpto_row_tie : Rows.fnAnswerHeadUptoRow.laidByTextAt .later Tryd.pinned [.data, .data, .data, .data] true :=
  OpenClaim.laidByTextAt_later rfl rfl tie2 noOwnUnsafe
theorem fnAnswerBackUpto_row_tie : Rows.fnAnswerBackUptoRow.laidByTextAt .later Tryd.pinned [.data, .data] true :=
  OpenClaim.laidByTextAt_later rfl rfl tie noOwnUnsafe
theorem fnExactRealAnswerUpto_row_tie : Rows.fnExactRealAnswerUptoRow.laidByTextAt .later Tryd.pinned [.data, .data] true :=
  OpenClaim.laidByTextAt_later rfl rfl tie noOwnUnsafe
theorem fnExactTonalAnswerUpto_row_tie : Rows.fnExactTonalAnswerUptoRow.laidByTextAt .later Tryd.pinned [.data, .data, .data, .data] true :=
  OpenClaim.laidByTextAt_later rfl rfl tie2 noOwnUnsafe
theorem fnExactAnswerHeadUpto_row_tie : Rows.fnExactAnswerHeadUptoRow.laidByTextAt .later Tryd.pinned [.data, .data, .data, .data] true :=
  OpenClaim.laidByTextAt_later rfl rfl tie2 noOwnUnsafe
theorem fnShiftVoiceUpto_row_tie : Rows.fnShiftVoiceUptoRow.laidByTextAt .later Tryd.pinned [.data] true :=
  OpenClaim.laidByTextAt_later rfl rfl tie3 noOwnUnsafe
theorem fnShiftTwoUpto_row_tie : Rows.fnShiftTwoUptoRow.laidByTextAt .later Tryd.pinned [.data] true :=
  OpenClaim.laidByTextAt_later rfl rfl tie3 noOwnUnsafe
theorem fnExactShiftVoiceUpto_row_tie : Rows.fnExactShiftVoiceUptoRow.laidByTextAt .later Tryd.pinned [.data] true :=
  OpenClaim.laidByTextAt_later rfl rfl tie3 noOwnUnsafe
theorem fnWriteForUpto_row_tie : Rows.fnWriteForUptoRow.laidByTextAt .later Tryd.pinned [.data] true :=
  OpenClaim.laidByTextAt_later rfl rfl tie3 noOwnUnsafe
theorem fnSoundOfUpto_row_tie : Rows.fnSoundOfUptoRow.laidByTextAt .later Tryd.pinned [.data] true :=
  OpenClaim.laidByTextAt_later rfl rfl tie3 noOwnUnsafe
end Go.Proofs.YtcgcnkddgihkpaaDoor
