/-
  NARROWER THAN 'FOR EVERY INPUT', by the rows' own cells (each row's printed sentence says how): FnRealAnswer: laid · FnTonalAnswer: laid · FnAnswerHead: laid · FnAnswerBack: laid · FnExactRealAnswer: laid · FnExactTonalAnswer: laid · FnExactAnswerHead: laid · FnShiftVoice: laid · FnShiftTwo: laid · FnExactShiftVoice: laid · FnWriteFor: laid · FnSoundOf: laid.
  DERIVED. THE GIVEN ROWS OF THIS SEAT. 12 by the template 'for every input the law returns true; each argument reads behind the call as it read before'; 0 by the template 'total and deterministic' (their statements: YtcgcnkddgihkpaaDoorTotals.lean).
  GIVEN WITH THE SEED: the statements are not yours to turn. If you find one false, say at which input.
  Laid BY PROGRAM, IN A SANDBOX (cutbox-rows.mjs): the forced cells as the released guide's own fill.sh prints them over the translation dc38c814fa12cd26… (all of the seat's roots in one cut). By AI agents, Wed Nov 11 2026. No macro, syntax, notation, axiom, sorry.
-/
import Derived.Test.YtcgcnkddgihkpaaDoorChecked
import GoSem.Claim
import GoSem.ClaimJoined
import GoSem.ClaimMapViews
import Derived.JoinedTies
import Derived.KernelRfl
namespace Go.Proofs.YtcgcnkddgihkpaaDoor
/- THE CELL 'sum', in the pinned program and in every row, IS THE sha256 OF THE DUMP (.gsa) THAT YtcgcnkddgihkpaaDoorProg.lean LOADS. Nothing in Lean hashes anything: it is a label: what it is worth is what the hold of that sum in a sandbox is worth. -/
noncomputable def Tryd.pinned : Pinned := { name := "ytcgcnkddgihkpaadoor", sum := "dc38c814fa12cd26ffab0c5c2c0ab3e528aac374e388e6d2baf67030911912cb", checked := Tryd.checked }
namespace Rows
def none {H : Type} : Left H := { results := [], args := [] }

/- WHAT THE LISTED PACKAGE-LEVEL VARIABLES READ AS WHEN THE CALL BEGINS. Each datum BY PROGRAM (the guide's laid-datum.mjs) off the statement by which the dump's own 'gosem.cut.vars' lays the variable. In a bare row this is a premise. The card (YtcgcnkddgihkpaaDoorCards.lean) ties it to the program's text. -/
def laid_loop_example_musicengine_impl_fifthUp {H : Type} : DataW H := .agg [.lit (.int .i64 4), .lit (.int .i64 7)]
def laid_loop_example_musicengine_impl_stepHalves {H : Type} : DataW H := .agg [.lit (.int .i64 0), .lit (.int .i64 2), .lit (.int .i64 4), .lit (.int .i64 5), .lit (.int .i64 7), .lit (.int .i64 9), .lit (.int .i64 11)]
def laid_loop_example_musicengine_impl_fourthUp {H : Type} : DataW H := .agg [.lit (.int .i64 3), .lit (.int .i64 5)]
def laid_loop_example_musicengine_impl_keyAlters {H : Type} : DataW H := .agg [.agg [.lit (.int .i64 (-1)), .lit (.int .i64 (-1)), .lit (.int .i64 (-1)), .lit (.int .i64 (-1)), .lit (.int .i64 (-1)), .lit (.int .i64 (-1)), .lit (.int .i64 (-1))], .agg [.lit (.int .i64 (-1)), .lit (.int .i64 (-1)), .lit (.int .i64 (-1)), .lit (.int .i64 0), .lit (.int .i64 (-1)), .lit (.int .i64 (-1)), .lit (.int .i64 (-1))], .agg [.lit (.int .i64 0), .lit (.int .i64 (-1)), .lit (.int .i64 (-1)), .lit (.int .i64 0), .lit (.int .i64 (-1)), .lit (.int .i64 (-1)), .lit (.int .i64 (-1))], .agg [.lit (.int .i64 0), .lit (.int .i64 (-1)), .lit (.int .i64 (-1)), .lit (.int .i64 0), .lit (.int .i64 0), .lit (.int .i64 (-1)), .lit (.int .i64 (-1))], .agg [.lit (.int .i64 0), .lit (.int .i64 0), .lit (.int .i64 (-1)), .lit (.int .i64 0), .lit (.int .i64 0), .lit (.int .i64 (-1)), .lit (.int .i64 (-1))], .agg [.lit (.int .i64 0), .lit (.int .i64 0), .lit (.int .i64 (-1)), .lit (.int .i64 0), .lit (.int .i64 0), .lit (.int .i64 0), .lit (.int .i64 (-1))], .agg [.lit (.int .i64 0), .lit (.int .i64 0), .lit (.int .i64 0), .lit (.int .i64 0), .lit (.int .i64 0), .lit (.int .i64 0), .lit (.int .i64 (-1))], .agg [.lit (.int .i64 0), .lit (.int .i64 0), .lit (.int .i64 0), .lit (.int .i64 0), .lit (.int .i64 0), .lit (.int .i64 0), .lit (.int .i64 0)], .agg [.lit (.int .i64 0), .lit (.int .i64 0), .lit (.int .i64 0), .lit (.int .i64 1), .lit (.int .i64 0), .lit (.int .i64 0), .lit (.int .i64 0)], .agg [.lit (.int .i64 1), .lit (.int .i64 0), .lit (.int .i64 0), .lit (.int .i64 1), .lit (.int .i64 0), .lit (.int .i64 0), .lit (.int .i64 0)], .agg [.lit (.int .i64 1), .lit (.int .i64 0), .lit (.int .i64 0), .lit (.int .i64 1), .lit (.int .i64 1), .lit (.int .i64 0), .lit (.int .i64 0)], .agg [.lit (.int .i64 1), .lit (.int .i64 1), .lit (.int .i64 0), .lit (.int .i64 1), .lit (.int .i64 1), .lit (.int .i64 0), .lit (.int .i64 0)], .agg [.lit (.int .i64 1), .lit (.int .i64 1), .lit (.int .i64 0), .lit (.int .i64 1), .lit (.int .i64 1), .lit (.int .i64 1), .lit (.int .i64 0)], .agg [.lit (.int .i64 1), .lit (.int .i64 1), .lit (.int .i64 1), .lit (.int .i64 1), .lit (.int .i64 1), .lit (.int .i64 1), .lit (.int .i64 0)], .agg [.lit (.int .i64 1), .lit (.int .i64 1), .lit (.int .i64 1), .lit (.int .i64 1), .lit (.int .i64 1), .lit (.int .i64 1), .lit (.int .i64 1)]]

/-- 'laws.FnRealAnswer': WHATEVER THE INPUT: true; the input reads as it did. -/
def fnRealAnswerSpec : ChangeSpec := { name := "fnRealAnswer", vars := ["loop.example/musicengine/impl.fifthUp", "loop.example/musicengine/impl.stepHalves"], fn := fun _ => fun
  | [d, g1, g2] => { results := [.lit (.bool true)], args := [d], vars := [g1, g2] }
  | _ => none }
def fnRealAnswerRow : OpenClaim := { program := "ytcgcnkddgihkpaadoor", sum := "dc38c814fa12cd26ffab0c5c2c0ab3e528aac374e388e6d2baf67030911912cb", func := "loop.example/musicengine/laws.FnRealAnswer", spec := "fnRealAnswer", named := ["loop.example/musicengine/impl.fifthUp", "loop.example/musicengine/impl.stepHalves"], apart := false, laid := [("loop.example/musicengine/impl.fifthUp", laid_loop_example_musicengine_impl_fifthUp), ("loop.example/musicengine/impl.stepHalves", laid_loop_example_musicengine_impl_stepHalves)] }
def FnRealAnswerSaid : Prop := fnRealAnswerRow.holds Tryd.pinned (OpenSpec.ofChange fnRealAnswerSpec)

/-- ITS FALSE NEIGHBOUR: 'it returns false'. Refute it at one input. -/
def fnRealAnswerWrong : ChangeSpec := { name := "fnRealAnswer", vars := ["loop.example/musicengine/impl.fifthUp", "loop.example/musicengine/impl.stepHalves"], fn := fun _ => fun
  | [d, g1, g2] => { results := [.lit (.bool false)], args := [d], vars := [g1, g2] }
  | _ => none }
def FnRealAnswerWrongFalsely : Prop := fnRealAnswerRow.holds Tryd.pinned (OpenSpec.ofChange fnRealAnswerWrong)

/-- 'laws.FnTonalAnswer': WHATEVER THE INPUT: true; the input reads as it did. -/
def fnTonalAnswerSpec : ChangeSpec := { name := "fnTonalAnswer", vars := ["loop.example/musicengine/impl.fifthUp", "loop.example/musicengine/impl.fourthUp", "loop.example/musicengine/impl.keyAlters", "loop.example/musicengine/impl.stepHalves"], fn := fun _ => fun
  | [d, g1, g2, g3, g4] => { results := [.lit (.bool true)], args := [d], vars := [g1, g2, g3, g4] }
  | _ => none }
def fnTonalAnswerRow : OpenClaim := { program := "ytcgcnkddgihkpaadoor", sum := "dc38c814fa12cd26ffab0c5c2c0ab3e528aac374e388e6d2baf67030911912cb", func := "loop.example/musicengine/laws.FnTonalAnswer", spec := "fnTonalAnswer", named := ["loop.example/musicengine/impl.fifthUp", "loop.example/musicengine/impl.fourthUp", "loop.example/musicengine/impl.keyAlters", "loop.example/musicengine/impl.stepHalves"], apart := false, laid := [("loop.example/musicengine/impl.fifthUp", laid_loop_example_musicengine_impl_fifthUp), ("loop.example/musicengine/impl.fourthUp", laid_loop_example_musicengine_impl_fourthUp), ("loop.example/musicengine/impl.stepHalves", laid_loop_example_musicengine_impl_stepHalves), ("loop.example/musicengine/impl.keyAlters", laid_loop_example_musicengine_impl_keyAlters)] }
def FnTonalAnswerSaid : Prop := fnTonalAnswerRow.holds Tryd.pinned (OpenSpec.ofChange fnTonalAnswerSpec)

/-- ITS FALSE NEIGHBOUR: 'it returns false'. Refute it at one input. -/
def fnTonalAnswerWrong : ChangeSpec := { name := "fnTonalAnswer", vars := ["loop.example/musicengine/impl.fifthUp", "loop.example/musicengine/impl.fourthUp", "loop.example/musicengine/impl.keyAlters", "loop.example/musicengine/impl.stepHalves"], fn := fun _ => fun
  | [d, g1, g2, g3, g4] => { results := [.lit (.bool false)], args := [d], vars := [g1, g2, g3, g4] }
  | _ => none }
def FnTonalAnswerWrongFalsely : Prop := fnTonalAnswerRow.holds Tryd.pinned (OpenSpec.ofChange fnTonalAnswerWrong)

/-- 'laws.FnAnswerHead': WHATEVER THE INPUT: true; the input reads as it did. -/
def fnAnswerHeadSpec : ChangeSpec := { name := "fnAnswerHead", vars := ["loop.example/musicengine/impl.fourthUp", "loop.example/musicengine/impl.keyAlters", "loop.example/musicengine/impl.stepHalves", "loop.example/musicengine/impl.fifthUp"], fn := fun _ => fun
  | [d, g1, g2, g3, g4] => { results := [.lit (.bool true)], args := [d], vars := [g1, g2, g3, g4] }
  | _ => none }
def fnAnswerHeadRow : OpenClaim := { program := "ytcgcnkddgihkpaadoor", sum := "dc38c814fa12cd26ffab0c5c2c0ab3e528aac374e388e6d2baf67030911912cb", func := "loop.example/musicengine/laws.FnAnswerHead", spec := "fnAnswerHead", named := ["loop.example/musicengine/impl.fourthUp", "loop.example/musicengine/impl.keyAlters", "loop.example/musicengine/impl.stepHalves", "loop.example/musicengine/impl.fifthUp"], apart := false, laid := [("loop.example/musicengine/impl.fifthUp", laid_loop_example_musicengine_impl_fifthUp), ("loop.example/musicengine/impl.fourthUp", laid_loop_example_musicengine_impl_fourthUp), ("loop.example/musicengine/impl.stepHalves", laid_loop_example_musicengine_impl_stepHalves), ("loop.example/musicengine/impl.keyAlters", laid_loop_example_musicengine_impl_keyAlters)] }
def FnAnswerHeadSaid : Prop := fnAnswerHeadRow.holds Tryd.pinned (OpenSpec.ofChange fnAnswerHeadSpec)

/-- ITS FALSE NEIGHBOUR: 'it returns false'. Refute it at one input. -/
def fnAnswerHeadWrong : ChangeSpec := { name := "fnAnswerHead", vars := ["loop.example/musicengine/impl.fourthUp", "loop.example/musicengine/impl.keyAlters", "loop.example/musicengine/impl.stepHalves", "loop.example/musicengine/impl.fifthUp"], fn := fun _ => fun
  | [d, g1, g2, g3, g4] => { results := [.lit (.bool false)], args := [d], vars := [g1, g2, g3, g4] }
  | _ => none }
def FnAnswerHeadWrongFalsely : Prop := fnAnswerHeadRow.holds Tryd.pinned (OpenSpec.ofChange fnAnswerHeadWrong)

/-- 'laws.FnAnswerBack': WHATEVER THE INPUT: true; the input reads as it did. -/
def fnAnswerBackSpec : ChangeSpec := { name := "fnAnswerBack", vars := ["loop.example/musicengine/impl.fifthUp", "loop.example/musicengine/impl.stepHalves"], fn := fun _ => fun
  | [d, g1, g2] => { results := [.lit (.bool true)], args := [d], vars := [g1, g2] }
  | _ => none }
def fnAnswerBackRow : OpenClaim := { program := "ytcgcnkddgihkpaadoor", sum := "dc38c814fa12cd26ffab0c5c2c0ab3e528aac374e388e6d2baf67030911912cb", func := "loop.example/musicengine/laws.FnAnswerBack", spec := "fnAnswerBack", named := ["loop.example/musicengine/impl.fifthUp", "loop.example/musicengine/impl.stepHalves"], apart := false, laid := [("loop.example/musicengine/impl.fifthUp", laid_loop_example_musicengine_impl_fifthUp), ("loop.example/musicengine/impl.stepHalves", laid_loop_example_musicengine_impl_stepHalves)] }
def FnAnswerBackSaid : Prop := fnAnswerBackRow.holds Tryd.pinned (OpenSpec.ofChange fnAnswerBackSpec)

/-- ITS FALSE NEIGHBOUR: 'it returns false'. Refute it at one input. -/
def fnAnswerBackWrong : ChangeSpec := { name := "fnAnswerBack", vars := ["loop.example/musicengine/impl.fifthUp", "loop.example/musicengine/impl.stepHalves"], fn := fun _ => fun
  | [d, g1, g2] => { results := [.lit (.bool false)], args := [d], vars := [g1, g2] }
  | _ => none }
def FnAnswerBackWrongFalsely : Prop := fnAnswerBackRow.holds Tryd.pinned (OpenSpec.ofChange fnAnswerBackWrong)

/-- 'laws.FnExactRealAnswer': WHATEVER THE INPUT: true; the input reads as it did. -/
def fnExactRealAnswerSpec : ChangeSpec := { name := "fnExactRealAnswer", vars := ["loop.example/musicengine/impl.fifthUp", "loop.example/musicengine/impl.stepHalves"], fn := fun _ => fun
  | [d, g1, g2] => { results := [.lit (.bool true)], args := [d], vars := [g1, g2] }
  | _ => none }
def fnExactRealAnswerRow : OpenClaim := { program := "ytcgcnkddgihkpaadoor", sum := "dc38c814fa12cd26ffab0c5c2c0ab3e528aac374e388e6d2baf67030911912cb", func := "loop.example/musicengine/laws.FnExactRealAnswer", spec := "fnExactRealAnswer", named := ["loop.example/musicengine/impl.fifthUp", "loop.example/musicengine/impl.stepHalves"], apart := false, laid := [("loop.example/musicengine/impl.fifthUp", laid_loop_example_musicengine_impl_fifthUp), ("loop.example/musicengine/impl.stepHalves", laid_loop_example_musicengine_impl_stepHalves)] }
def FnExactRealAnswerSaid : Prop := fnExactRealAnswerRow.holds Tryd.pinned (OpenSpec.ofChange fnExactRealAnswerSpec)

/-- ITS FALSE NEIGHBOUR: 'it returns false'. Refute it at one input. -/
def fnExactRealAnswerWrong : ChangeSpec := { name := "fnExactRealAnswer", vars := ["loop.example/musicengine/impl.fifthUp", "loop.example/musicengine/impl.stepHalves"], fn := fun _ => fun
  | [d, g1, g2] => { results := [.lit (.bool false)], args := [d], vars := [g1, g2] }
  | _ => none }
def FnExactRealAnswerWrongFalsely : Prop := fnExactRealAnswerRow.holds Tryd.pinned (OpenSpec.ofChange fnExactRealAnswerWrong)

/-- 'laws.FnExactTonalAnswer': WHATEVER THE INPUT: true; the input reads as it did. -/
def fnExactTonalAnswerSpec : ChangeSpec := { name := "fnExactTonalAnswer", vars := ["loop.example/musicengine/impl.fifthUp", "loop.example/musicengine/impl.fourthUp", "loop.example/musicengine/impl.keyAlters", "loop.example/musicengine/impl.stepHalves"], fn := fun _ => fun
  | [d1, d2, d3, d4, g1, g2, g3, g4] => { results := [.lit (.bool true)], args := [d1, d2, d3, d4], vars := [g1, g2, g3, g4] }
  | _ => none }
def fnExactTonalAnswerRow : OpenClaim := { program := "ytcgcnkddgihkpaadoor", sum := "dc38c814fa12cd26ffab0c5c2c0ab3e528aac374e388e6d2baf67030911912cb", func := "loop.example/musicengine/laws.FnExactTonalAnswer", spec := "fnExactTonalAnswer", named := ["loop.example/musicengine/impl.fifthUp", "loop.example/musicengine/impl.fourthUp", "loop.example/musicengine/impl.keyAlters", "loop.example/musicengine/impl.stepHalves"], apart := false, laid := [("loop.example/musicengine/impl.fifthUp", laid_loop_example_musicengine_impl_fifthUp), ("loop.example/musicengine/impl.fourthUp", laid_loop_example_musicengine_impl_fourthUp), ("loop.example/musicengine/impl.stepHalves", laid_loop_example_musicengine_impl_stepHalves), ("loop.example/musicengine/impl.keyAlters", laid_loop_example_musicengine_impl_keyAlters)] }
def FnExactTonalAnswerSaid : Prop := fnExactTonalAnswerRow.holds Tryd.pinned (OpenSpec.ofChange fnExactTonalAnswerSpec)

/-- ITS FALSE NEIGHBOUR: 'it returns false'. Refute it at one input. -/
def fnExactTonalAnswerWrong : ChangeSpec := { name := "fnExactTonalAnswer", vars := ["loop.example/musicengine/impl.fifthUp", "loop.example/musicengine/impl.fourthUp", "loop.example/musicengine/impl.keyAlters", "loop.example/musicengine/impl.stepHalves"], fn := fun _ => fun
  | [d1, d2, d3, d4, g1, g2, g3, g4] => { results := [.lit (.bool false)], args := [d1, d2, d3, d4], vars := [g1, g2, g3, g4] }
  | _ => none }
def FnExactTonalAnswerWrongFalsely : Prop := fnExactTonalAnswerRow.holds Tryd.pinned (OpenSpec.ofChange fnExactTonalAnswerWrong)

/-- 'laws.FnExactAnswerHead': WHATEVER THE INPUT: true; the input reads as it did. -/
def fnExactAnswerHeadSpec : ChangeSpec := { name := "fnExactAnswerHead", vars := ["loop.example/musicengine/impl.fourthUp", "loop.example/musicengine/impl.keyAlters", "loop.example/musicengine/impl.stepHalves", "loop.example/musicengine/impl.fifthUp"], fn := fun _ => fun
  | [d1, d2, d3, d4, g1, g2, g3, g4] => { results := [.lit (.bool true)], args := [d1, d2, d3, d4], vars := [g1, g2, g3, g4] }
  | _ => none }
def fnExactAnswerHeadRow : OpenClaim := { program := "ytcgcnkddgihkpaadoor", sum := "dc38c814fa12cd26ffab0c5c2c0ab3e528aac374e388e6d2baf67030911912cb", func := "loop.example/musicengine/laws.FnExactAnswerHead", spec := "fnExactAnswerHead", named := ["loop.example/musicengine/impl.fourthUp", "loop.example/musicengine/impl.keyAlters", "loop.example/musicengine/impl.stepHalves", "loop.example/musicengine/impl.fifthUp"], apart := false, laid := [("loop.example/musicengine/impl.fifthUp", laid_loop_example_musicengine_impl_fifthUp), ("loop.example/musicengine/impl.fourthUp", laid_loop_example_musicengine_impl_fourthUp), ("loop.example/musicengine/impl.stepHalves", laid_loop_example_musicengine_impl_stepHalves), ("loop.example/musicengine/impl.keyAlters", laid_loop_example_musicengine_impl_keyAlters)] }
def FnExactAnswerHeadSaid : Prop := fnExactAnswerHeadRow.holds Tryd.pinned (OpenSpec.ofChange fnExactAnswerHeadSpec)

/-- ITS FALSE NEIGHBOUR: 'it returns false'. Refute it at one input. -/
def fnExactAnswerHeadWrong : ChangeSpec := { name := "fnExactAnswerHead", vars := ["loop.example/musicengine/impl.fourthUp", "loop.example/musicengine/impl.keyAlters", "loop.example/musicengine/impl.stepHalves", "loop.example/musicengine/impl.fifthUp"], fn := fun _ => fun
  | [d1, d2, d3, d4, g1, g2, g3, g4] => { results := [.lit (.bool false)], args := [d1, d2, d3, d4], vars := [g1, g2, g3, g4] }
  | _ => none }
def FnExactAnswerHeadWrongFalsely : Prop := fnExactAnswerHeadRow.holds Tryd.pinned (OpenSpec.ofChange fnExactAnswerHeadWrong)

/-- 'laws.FnShiftVoice': WHATEVER THE INPUT: true; the input reads as it did. -/
def fnShiftVoiceSpec : ChangeSpec := { name := "fnShiftVoice", vars := ["loop.example/musicengine/impl.stepHalves"], fn := fun _ => fun
  | [d, g1] => { results := [.lit (.bool true)], args := [d], vars := [g1] }
  | _ => none }
def fnShiftVoiceRow : OpenClaim := { program := "ytcgcnkddgihkpaadoor", sum := "dc38c814fa12cd26ffab0c5c2c0ab3e528aac374e388e6d2baf67030911912cb", func := "loop.example/musicengine/laws.FnShiftVoice", spec := "fnShiftVoice", named := ["loop.example/musicengine/impl.stepHalves"], apart := false, laid := [("loop.example/musicengine/impl.stepHalves", laid_loop_example_musicengine_impl_stepHalves)] }
def FnShiftVoiceSaid : Prop := fnShiftVoiceRow.holds Tryd.pinned (OpenSpec.ofChange fnShiftVoiceSpec)

/-- ITS FALSE NEIGHBOUR: 'it returns false'. Refute it at one input. -/
def fnShiftVoiceWrong : ChangeSpec := { name := "fnShiftVoice", vars := ["loop.example/musicengine/impl.stepHalves"], fn := fun _ => fun
  | [d, g1] => { results := [.lit (.bool false)], args := [d], vars := [g1] }
  | _ => none }
def FnShiftVoiceWrongFalsely : Prop := fnShiftVoiceRow.holds Tryd.pinned (OpenSpec.ofChange fnShiftVoiceWrong)

/-- 'laws.FnShiftTwo': WHATEVER THE INPUT: true; the input reads as it did. -/
def fnShiftTwoSpec : ChangeSpec := { name := "fnShiftTwo", vars := ["loop.example/musicengine/impl.stepHalves"], fn := fun _ => fun
  | [d, g1] => { results := [.lit (.bool true)], args := [d], vars := [g1] }
  | _ => none }
def fnShiftTwoRow : OpenClaim := { program := "ytcgcnkddgihkpaadoor", sum := "dc38c814fa12cd26ffab0c5c2c0ab3e528aac374e388e6d2baf67030911912cb", func := "loop.example/musicengine/laws.FnShiftTwo", spec := "fnShiftTwo", named := ["loop.example/musicengine/impl.stepHalves"], apart := false, laid := [("loop.example/musicengine/impl.stepHalves", laid_loop_example_musicengine_impl_stepHalves)] }
def FnShiftTwoSaid : Prop := fnShiftTwoRow.holds Tryd.pinned (OpenSpec.ofChange fnShiftTwoSpec)

/-- ITS FALSE NEIGHBOUR: 'it returns false'. Refute it at one input. -/
def fnShiftTwoWrong : ChangeSpec := { name := "fnShiftTwo", vars := ["loop.example/musicengine/impl.stepHalves"], fn := fun _ => fun
  | [d, g1] => { results := [.lit (.bool false)], args := [d], vars := [g1] }
  | _ => none }
def FnShiftTwoWrongFalsely : Prop := fnShiftTwoRow.holds Tryd.pinned (OpenSpec.ofChange fnShiftTwoWrong)

/-- 'laws.FnExactShiftVoice': WHATEVER THE INPUT: true; the input reads as it did. -/
def fnExactShiftVoiceSpec : ChangeSpec := { name := "fnExactShiftVoice", vars := ["loop.example/musicengine/impl.stepHalves"], fn := fun _ => fun
  | [d1, d2, g1] => { results := [.lit (.bool true)], args := [d1, d2], vars := [g1] }
  | _ => none }
def fnExactShiftVoiceRow : OpenClaim := { program := "ytcgcnkddgihkpaadoor", sum := "dc38c814fa12cd26ffab0c5c2c0ab3e528aac374e388e6d2baf67030911912cb", func := "loop.example/musicengine/laws.FnExactShiftVoice", spec := "fnExactShiftVoice", named := ["loop.example/musicengine/impl.stepHalves"], apart := false, laid := [("loop.example/musicengine/impl.stepHalves", laid_loop_example_musicengine_impl_stepHalves)] }
def FnExactShiftVoiceSaid : Prop := fnExactShiftVoiceRow.holds Tryd.pinned (OpenSpec.ofChange fnExactShiftVoiceSpec)

/-- ITS FALSE NEIGHBOUR: 'it returns false'. Refute it at one input. -/
def fnExactShiftVoiceWrong : ChangeSpec := { name := "fnExactShiftVoice", vars := ["loop.example/musicengine/impl.stepHalves"], fn := fun _ => fun
  | [d1, d2, g1] => { results := [.lit (.bool false)], args := [d1, d2], vars := [g1] }
  | _ => none }
def FnExactShiftVoiceWrongFalsely : Prop := fnExactShiftVoiceRow.holds Tryd.pinned (OpenSpec.ofChange fnExactShiftVoiceWrong)

/-- 'laws.FnWriteFor': WHATEVER THE INPUT: true; the input reads as it did. -/
def fnWriteForSpec : ChangeSpec := { name := "fnWriteFor", vars := ["loop.example/musicengine/impl.stepHalves"], fn := fun _ => fun
  | [d, g1] => { results := [.lit (.bool true)], args := [d], vars := [g1] }
  | _ => none }
def fnWriteForRow : OpenClaim := { program := "ytcgcnkddgihkpaadoor", sum := "dc38c814fa12cd26ffab0c5c2c0ab3e528aac374e388e6d2baf67030911912cb", func := "loop.example/musicengine/laws.FnWriteFor", spec := "fnWriteFor", named := ["loop.example/musicengine/impl.stepHalves"], apart := false, laid := [("loop.example/musicengine/impl.stepHalves", laid_loop_example_musicengine_impl_stepHalves)] }
def FnWriteForSaid : Prop := fnWriteForRow.holds Tryd.pinned (OpenSpec.ofChange fnWriteForSpec)

/-- ITS FALSE NEIGHBOUR: 'it returns false'. Refute it at one input. -/
def fnWriteForWrong : ChangeSpec := { name := "fnWriteFor", vars := ["loop.example/musicengine/impl.stepHalves"], fn := fun _ => fun
  | [d, g1] => { results := [.lit (.bool false)], args := [d], vars := [g1] }
  | _ => none }
def FnWriteForWrongFalsely : Prop := fnWriteForRow.holds Tryd.pinned (OpenSpec.ofChange fnWriteForWrong)

/-- 'laws.FnSoundOf': WHATEVER THE INPUT: true; the input reads as it did. -/
def fnSoundOfSpec : ChangeSpec := { name := "fnSoundOf", vars := ["loop.example/musicengine/impl.stepHalves"], fn := fun _ => fun
  | [d, g1] => { results := [.lit (.bool true)], args := [d], vars := [g1] }
  | _ => none }
def fnSoundOfRow : OpenClaim := { program := "ytcgcnkddgihkpaadoor", sum := "dc38c814fa12cd26ffab0c5c2c0ab3e528aac374e388e6d2baf67030911912cb", func := "loop.example/musicengine/laws.FnSoundOf", spec := "fnSoundOf", named := ["loop.example/musicengine/impl.stepHalves"], apart := false, laid := [("loop.example/musicengine/impl.stepHalves", laid_loop_example_musicengine_impl_stepHalves)] }
def FnSoundOfSaid : Prop := fnSoundOfRow.holds Tryd.pinned (OpenSpec.ofChange fnSoundOfSpec)

/-- ITS FALSE NEIGHBOUR: 'it returns false'. Refute it at one input. -/
def fnSoundOfWrong : ChangeSpec := { name := "fnSoundOf", vars := ["loop.example/musicengine/impl.stepHalves"], fn := fun _ => fun
  | [d, g1] => { results := [.lit (.bool false)], args := [d], vars := [g1] }
  | _ => none }
def FnSoundOfWrongFalsely : Prop := fnSoundOfRow.holds Tryd.pinned (OpenSpec.ofChange fnSoundOfWrong)

/- THE SECOND FORM. 'bulk': how many values and letters a reading holds, each counted each time it is reached (what is shared counts as often as it is met; a slice's spare places count too). A statement '..UptoSaid' is the law's where the arguments, and the package variables that the reading takes, are together of bulk at most 1048576: NARROWER than '..Said'. Prove '..Said' where nothing that the law and all that it calls make is longer than what came in: it says more and counts as full. Else prove '..UptoSaid'. A law counts once. -/
mutual
def uptoBulk {H : Type} : DataW H → Nat
  | .lit (.string bytes) => bytes.length + 1
  | .lit _ => 1
  | .nil => 1
  | .ptr d => uptoBulk d + 1
  | .slice elems spare => uptoBulkAll elems + uptoBulkAll spare + 1
  | .agg parts => uptoBulkAll parts + 1
  | .iface _ d => uptoBulk d + 1
  | .map entries => uptoBulkEntries entries + 1
  | .held _ => 1
def uptoBulkAll {H : Type} : List (DataW H) → Nat
  | [] => 0
  | d :: r => uptoBulk d + uptoBulkAll r
def uptoBulkEntries {H : Type} : List (Lit × DataW H) → Nat
  | [] => 0
  | x :: r => uptoBulkEntry x + uptoBulkEntries r
def uptoBulkEntry {H : Type} : Lit × DataW H → Nat
  | (.string bytes, d) => bytes.length + uptoBulk d + 1
  | (_, d) => uptoBulk d + 1
 end
def uptoSmall : (H : Type) → List (DataW H) → Bool := fun _ ds => decide (uptoBulkAll ds ≤ 1048576)
def OpenSpec.upto (s : _root_.Go.ChangeSpec) : _root_.Go.OpenSpec := { _root_.Go.OpenSpec.ofChange s with cond := some uptoSmall }

/-- 'laws.FnRealAnswer', WHERE WHAT IT READS IS OF BULK AT MOST 1048576: true; the input reads as it did. -/
def fnRealAnswerUptoRow : OpenClaim := { program := "ytcgcnkddgihkpaadoor", sum := "dc38c814fa12cd26ffab0c5c2c0ab3e528aac374e388e6d2baf67030911912cb", func := "loop.example/musicengine/laws.FnRealAnswer", spec := "fnRealAnswer", named := ["loop.example/musicengine/impl.fifthUp", "loop.example/musicengine/impl.stepHalves"], apart := false, laid := [("loop.example/musicengine/impl.fifthUp", laid_loop_example_musicengine_impl_fifthUp), ("loop.example/musicengine/impl.stepHalves", laid_loop_example_musicengine_impl_stepHalves)], narrowed := true }
def FnRealAnswerUptoSaid : Prop := fnRealAnswerUptoRow.holds Tryd.pinned (OpenSpec.upto fnRealAnswerSpec)

/-- 'laws.FnTonalAnswer', WHERE WHAT IT READS IS OF BULK AT MOST 1048576: true; the input reads as it did. -/
def fnTonalAnswerUptoRow : OpenClaim := { program := "ytcgcnkddgihkpaadoor", sum := "dc38c814fa12cd26ffab0c5c2c0ab3e528aac374e388e6d2baf67030911912cb", func := "loop.example/musicengine/laws.FnTonalAnswer", spec := "fnTonalAnswer", named := ["loop.example/musicengine/impl.fifthUp", "loop.example/musicengine/impl.fourthUp", "loop.example/musicengine/impl.keyAlters", "loop.example/musicengine/impl.stepHalves"], apart := false, laid := [("loop.example/musicengine/impl.fifthUp", laid_loop_example_musicengine_impl_fifthUp), ("loop.example/musicengine/impl.fourthUp", laid_loop_example_musicengine_impl_fourthUp), ("loop.example/musicengine/impl.stepHalves", laid_loop_example_musicengine_impl_stepHalves), ("loop.example/musicengine/impl.keyAlters", laid_loop_example_musicengine_impl_keyAlters)], narrowed := true }
def FnTonalAnswerUptoSaid : Prop := fnTonalAnswerUptoRow.holds Tryd.pinned (OpenSpec.upto fnTonalAnswerSpec)

/-- 'laws.FnAnswerHead', WHERE WHAT IT READS IS OF BULK AT MOST 1048576: true; the input reads as it did. -/
def fnAnswerHeadUptoRow : OpenClaim := { program := "ytcgcnkddgihkpaadoor", sum := "dc38c814fa12cd26ffab0c5c2c0ab3e528aac374e388e6d2baf67030911912cb", func := "loop.example/musicengine/laws.FnAnswerHead", spec := "fnAnswerHead", named := ["loop.example/musicengine/impl.fourthUp", "loop.example/musicengine/impl.keyAlters", "loop.example/musicengine/impl.stepHalves", "loop.example/musicengine/impl.fifthUp"], apart := false, laid := [("loop.example/musicengine/impl.fifthUp", laid_loop_example_musicengine_impl_fifthUp), ("loop.example/musicengine/impl.fourthUp", laid_loop_example_musicengine_impl_fourthUp), ("loop.example/musicengine/impl.stepHalves", laid_loop_example_musicengine_impl_stepHalves), ("loop.example/musicengine/impl.keyAlters", laid_loop_example_musicengine_impl_keyAlters)], narrowed := true }
def FnAnswerHeadUptoSaid : Prop := fnAnswerHeadUptoRow.holds Tryd.pinned (OpenSpec.upto fnAnswerHeadSpec)

/-- 'laws.FnAnswerBack', WHERE WHAT IT READS IS OF BULK AT MOST 1048576: true; the input reads as it did. -/
def fnAnswerBackUptoRow : OpenClaim := { program := "ytcgcnkddgihkpaadoor", sum := "dc38c814fa12cd26ffab0c5c2c0ab3e528aac374e388e6d2baf67030911912cb", func := "loop.example/musicengine/laws.FnAnswerBack", spec := "fnAnswerBack", named := ["loop.example/musicengine/impl.fifthUp", "loop.example/musicengine/impl.stepHalves"], apart := false, laid := [("loop.example/musicengine/impl.fifthUp", laid_loop_example_musicengine_impl_fifthUp), ("loop.example/musicengine/impl.stepHalves", laid_loop_example_musicengine_impl_stepHalves)], narrowed := true }
def FnAnswerBackUptoSaid : Prop := fnAnswerBackUptoRow.holds Tryd.pinned (OpenSpec.upto fnAnswerBackSpec)

/-- 'laws.FnExactRealAnswer', WHERE WHAT IT READS IS OF BULK AT MOST 1048576: true; the input reads as it did. -/
def fnExactRealAnswerUptoRow : OpenClaim := { program := "ytcgcnkddgihkpaadoor", sum := "dc38c814fa12cd26ffab0c5c2c0ab3e528aac374e388e6d2baf67030911912cb", func := "loop.example/musicengine/laws.FnExactRealAnswer", spec := "fnExactRealAnswer", named := ["loop.example/musicengine/impl.fifthUp", "loop.example/musicengine/impl.stepHalves"], apart := false, laid := [("loop.example/musicengine/impl.fifthUp", laid_loop_example_musicengine_impl_fifthUp), ("loop.example/musicengine/impl.stepHalves", laid_loop_example_musicengine_impl_stepHalves)], narrowed := true }
def FnExactRealAnswerUptoSaid : Prop := fnExactRealAnswerUptoRow.holds Tryd.pinned (OpenSpec.upto fnExactRealAnswerSpec)

/-- 'laws.FnExactTonalAnswer', WHERE WHAT IT READS IS OF BULK AT MOST 1048576: true; the input reads as it did. -/
def fnExactTonalAnswerUptoRow : OpenClaim := { program := "ytcgcnkddgihkpaadoor", sum := "dc38c814fa12cd26ffab0c5c2c0ab3e528aac374e388e6d2baf67030911912cb", func := "loop.example/musicengine/laws.FnExactTonalAnswer", spec := "fnExactTonalAnswer", named := ["loop.example/musicengine/impl.fifthUp", "loop.example/musicengine/impl.fourthUp", "loop.example/musicengine/impl.keyAlters", "loop.example/musicengine/impl.stepHalves"], apart := false, laid := [("loop.example/musicengine/impl.fifthUp", laid_loop_example_musicengine_impl_fifthUp), ("loop.example/musicengine/impl.fourthUp", laid_loop_example_musicengine_impl_fourthUp), ("loop.example/musicengine/impl.stepHalves", laid_loop_example_musicengine_impl_stepHalves), ("loop.example/musicengine/impl.keyAlters", laid_loop_example_musicengine_impl_keyAlters)], narrowed := true }
def FnExactTonalAnswerUptoSaid : Prop := fnExactTonalAnswerUptoRow.holds Tryd.pinned (OpenSpec.upto fnExactTonalAnswerSpec)

/-- 'laws.FnExactAnswerHead', WHERE WHAT IT READS IS OF BULK AT MOST 1048576: true; the input reads as it did. -/
def fnExactAnswerHeadUptoRow : OpenClaim := { program := "ytcgcnkddgihkpaadoor", sum := "dc38c814fa12cd26ffab0c5c2c0ab3e528aac374e388e6d2baf67030911912cb", func := "loop.example/musicengine/laws.FnExactAnswerHead", spec := "fnExactAnswerHead", named := ["loop.example/musicengine/impl.fourthUp", "loop.example/musicengine/impl.keyAlters", "loop.example/musicengine/impl.stepHalves", "loop.example/musicengine/impl.fifthUp"], apart := false, laid := [("loop.example/musicengine/impl.fifthUp", laid_loop_example_musicengine_impl_fifthUp), ("loop.example/musicengine/impl.fourthUp", laid_loop_example_musicengine_impl_fourthUp), ("loop.example/musicengine/impl.stepHalves", laid_loop_example_musicengine_impl_stepHalves), ("loop.example/musicengine/impl.keyAlters", laid_loop_example_musicengine_impl_keyAlters)], narrowed := true }
def FnExactAnswerHeadUptoSaid : Prop := fnExactAnswerHeadUptoRow.holds Tryd.pinned (OpenSpec.upto fnExactAnswerHeadSpec)

/-- 'laws.FnShiftVoice', WHERE WHAT IT READS IS OF BULK AT MOST 1048576: true; the input reads as it did. -/
def fnShiftVoiceUptoRow : OpenClaim := { program := "ytcgcnkddgihkpaadoor", sum := "dc38c814fa12cd26ffab0c5c2c0ab3e528aac374e388e6d2baf67030911912cb", func := "loop.example/musicengine/laws.FnShiftVoice", spec := "fnShiftVoice", named := ["loop.example/musicengine/impl.stepHalves"], apart := false, laid := [("loop.example/musicengine/impl.stepHalves", laid_loop_example_musicengine_impl_stepHalves)], narrowed := true }
def FnShiftVoiceUptoSaid : Prop := fnShiftVoiceUptoRow.holds Tryd.pinned (OpenSpec.upto fnShiftVoiceSpec)

/-- 'laws.FnShiftTwo', WHERE WHAT IT READS IS OF BULK AT MOST 1048576: true; the input reads as it did. -/
def fnShiftTwoUptoRow : OpenClaim := { program := "ytcgcnkddgihkpaadoor", sum := "dc38c814fa12cd26ffab0c5c2c0ab3e528aac374e388e6d2baf67030911912cb", func := "loop.example/musicengine/laws.FnShiftTwo", spec := "fnShiftTwo", named := ["loop.example/musicengine/impl.stepHalves"], apart := false, laid := [("loop.example/musicengine/impl.stepHalves", laid_loop_example_musicengine_impl_stepHalves)], narrowed := true }
def FnShiftTwoUptoSaid : Prop := fnShiftTwoUptoRow.holds Tryd.pinned (OpenSpec.upto fnShiftTwoSpec)

/-- 'laws.FnExactShiftVoice', WHERE WHAT IT READS IS OF BULK AT MOST 1048576: true; the input reads as it did. -/
def fnExactShiftVoiceUptoRow : OpenClaim := { program := "ytcgcnkddgihkpaadoor", sum := "dc38c814fa12cd26ffab0c5c2c0ab3e528aac374e388e6d2baf67030911912cb", func := "loop.example/musicengine/laws.FnExactShiftVoice", spec := "fnExactShiftVoice", named := ["loop.example/musicengine/impl.stepHalves"], apart := false, laid := [("loop.example/musicengine/impl.stepHalves", laid_loop_example_musicengine_impl_stepHalves)], narrowed := true }
def FnExactShiftVoiceUptoSaid : Prop := fnExactShiftVoiceUptoRow.holds Tryd.pinned (OpenSpec.upto fnExactShiftVoiceSpec)

/-- 'laws.FnWriteFor', WHERE WHAT IT READS IS OF BULK AT MOST 1048576: true; the input reads as it did. -/
def fnWriteForUptoRow : OpenClaim := { program := "ytcgcnkddgihkpaadoor", sum := "dc38c814fa12cd26ffab0c5c2c0ab3e528aac374e388e6d2baf67030911912cb", func := "loop.example/musicengine/laws.FnWriteFor", spec := "fnWriteFor", named := ["loop.example/musicengine/impl.stepHalves"], apart := false, laid := [("loop.example/musicengine/impl.stepHalves", laid_loop_example_musicengine_impl_stepHalves)], narrowed := true }
def FnWriteForUptoSaid : Prop := fnWriteForUptoRow.holds Tryd.pinned (OpenSpec.upto fnWriteForSpec)

/-- 'laws.FnSoundOf', WHERE WHAT IT READS IS OF BULK AT MOST 1048576: true; the input reads as it did. -/
def fnSoundOfUptoRow : OpenClaim := { program := "ytcgcnkddgihkpaadoor", sum := "dc38c814fa12cd26ffab0c5c2c0ab3e528aac374e388e6d2baf67030911912cb", func := "loop.example/musicengine/laws.FnSoundOf", spec := "fnSoundOf", named := ["loop.example/musicengine/impl.stepHalves"], apart := false, laid := [("loop.example/musicengine/impl.stepHalves", laid_loop_example_musicengine_impl_stepHalves)], narrowed := true }
def FnSoundOfUptoSaid : Prop := fnSoundOfUptoRow.holds Tryd.pinned (OpenSpec.upto fnSoundOfSpec)

end Rows
end Go.Proofs.YtcgcnkddgihkpaaDoor
