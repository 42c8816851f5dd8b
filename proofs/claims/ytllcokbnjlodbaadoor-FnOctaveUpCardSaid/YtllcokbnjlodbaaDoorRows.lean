/-
  NARROWER THAN 'FOR EVERY INPUT', by the rows' own cells (each row's printed sentence says how): FnExactKeyAlter: laid · FnExactKeyTonic: laid · FnExactKeyScale: laid · FnExactInKey: laid · FnExactKeyOf: laid · FnExactDegreeOf: laid · FnKeyTonic: laid · FnKeyScale: laid · FnInKey: laid · FnKeyOf: laid · FnDegreeOf: laid · FnOctaveUp: laid.
  DERIVED. THE GIVEN ROWS OF THIS SEAT. 12 by the template 'for every input the law returns true; each argument reads behind the call as it read before'; 0 by the template 'total and deterministic' (their statements: YtllcokbnjlodbaaDoorTotals.lean).
  GIVEN WITH THE SEED: the statements are not yours to turn. If you find one false, say at which input.
  Laid BY PROGRAM, IN A SANDBOX (cutbox-rows.mjs): the forced cells as the released guide's own fill.sh prints them over the translation 84bd6b756b91e3ab… (all of the seat's roots in one cut). By AI agents, Wed Nov 11 2026. No macro, syntax, notation, axiom, sorry.
-/
import Derived.Test.YtllcokbnjlodbaaDoorChecked
import GoSem.Claim
import GoSem.ClaimJoined
import GoSem.ClaimMapViews
import Derived.JoinedTies
import Derived.KernelRfl
namespace Go.Proofs.YtllcokbnjlodbaaDoor
/- THE CELL 'sum', in the pinned program and in every row, IS THE sha256 OF THE DUMP (.gsa) THAT YtllcokbnjlodbaaDoorProg.lean LOADS. Nothing in Lean hashes anything: it is a label: what it is worth is what the hold of that sum in a sandbox is worth. -/
noncomputable def Tryd.pinned : Pinned := { name := "ytllcokbnjlodbaadoor", sum := "84bd6b756b91e3abed375e6368b7ff17cd36344b2696ea21d9e3d2808ead582a", checked := Tryd.checked }
namespace Rows
def none {H : Type} : Left H := { results := [], args := [] }

/- WHAT THE LISTED PACKAGE-LEVEL VARIABLES READ AS WHEN THE CALL BEGINS. Each datum BY PROGRAM (the guide's laid-datum.mjs) off the statement by which the dump's own 'gosem.cut.vars' lays the variable. In a bare row this is a premise. The card (YtllcokbnjlodbaaDoorCards.lean) ties it to the program's text. -/
def laid_loop_example_musicengine_impl_keyAlters {H : Type} : DataW H := .agg [.agg [.lit (.int .i64 (-1)), .lit (.int .i64 (-1)), .lit (.int .i64 (-1)), .lit (.int .i64 (-1)), .lit (.int .i64 (-1)), .lit (.int .i64 (-1)), .lit (.int .i64 (-1))], .agg [.lit (.int .i64 (-1)), .lit (.int .i64 (-1)), .lit (.int .i64 (-1)), .lit (.int .i64 0), .lit (.int .i64 (-1)), .lit (.int .i64 (-1)), .lit (.int .i64 (-1))], .agg [.lit (.int .i64 0), .lit (.int .i64 (-1)), .lit (.int .i64 (-1)), .lit (.int .i64 0), .lit (.int .i64 (-1)), .lit (.int .i64 (-1)), .lit (.int .i64 (-1))], .agg [.lit (.int .i64 0), .lit (.int .i64 (-1)), .lit (.int .i64 (-1)), .lit (.int .i64 0), .lit (.int .i64 0), .lit (.int .i64 (-1)), .lit (.int .i64 (-1))], .agg [.lit (.int .i64 0), .lit (.int .i64 0), .lit (.int .i64 (-1)), .lit (.int .i64 0), .lit (.int .i64 0), .lit (.int .i64 (-1)), .lit (.int .i64 (-1))], .agg [.lit (.int .i64 0), .lit (.int .i64 0), .lit (.int .i64 (-1)), .lit (.int .i64 0), .lit (.int .i64 0), .lit (.int .i64 0), .lit (.int .i64 (-1))], .agg [.lit (.int .i64 0), .lit (.int .i64 0), .lit (.int .i64 0), .lit (.int .i64 0), .lit (.int .i64 0), .lit (.int .i64 0), .lit (.int .i64 (-1))], .agg [.lit (.int .i64 0), .lit (.int .i64 0), .lit (.int .i64 0), .lit (.int .i64 0), .lit (.int .i64 0), .lit (.int .i64 0), .lit (.int .i64 0)], .agg [.lit (.int .i64 0), .lit (.int .i64 0), .lit (.int .i64 0), .lit (.int .i64 1), .lit (.int .i64 0), .lit (.int .i64 0), .lit (.int .i64 0)], .agg [.lit (.int .i64 1), .lit (.int .i64 0), .lit (.int .i64 0), .lit (.int .i64 1), .lit (.int .i64 0), .lit (.int .i64 0), .lit (.int .i64 0)], .agg [.lit (.int .i64 1), .lit (.int .i64 0), .lit (.int .i64 0), .lit (.int .i64 1), .lit (.int .i64 1), .lit (.int .i64 0), .lit (.int .i64 0)], .agg [.lit (.int .i64 1), .lit (.int .i64 1), .lit (.int .i64 0), .lit (.int .i64 1), .lit (.int .i64 1), .lit (.int .i64 0), .lit (.int .i64 0)], .agg [.lit (.int .i64 1), .lit (.int .i64 1), .lit (.int .i64 0), .lit (.int .i64 1), .lit (.int .i64 1), .lit (.int .i64 1), .lit (.int .i64 0)], .agg [.lit (.int .i64 1), .lit (.int .i64 1), .lit (.int .i64 1), .lit (.int .i64 1), .lit (.int .i64 1), .lit (.int .i64 1), .lit (.int .i64 0)], .agg [.lit (.int .i64 1), .lit (.int .i64 1), .lit (.int .i64 1), .lit (.int .i64 1), .lit (.int .i64 1), .lit (.int .i64 1), .lit (.int .i64 1)]]
def laid_loop_example_musicengine_impl_stepHalves {H : Type} : DataW H := .agg [.lit (.int .i64 0), .lit (.int .i64 2), .lit (.int .i64 4), .lit (.int .i64 5), .lit (.int .i64 7), .lit (.int .i64 9), .lit (.int .i64 11)]

/-- 'laws.FnExactKeyAlter': WHATEVER THE INPUT: true; the input reads as it did. -/
def fnExactKeyAlterSpec : ChangeSpec := { name := "fnExactKeyAlter", vars := ["loop.example/musicengine/impl.keyAlters"], fn := fun _ => fun
  | [d1, d2, g1] => { results := [.lit (.bool true)], args := [d1, d2], vars := [g1] }
  | _ => none }
def fnExactKeyAlterRow : OpenClaim := { program := "ytllcokbnjlodbaadoor", sum := "84bd6b756b91e3abed375e6368b7ff17cd36344b2696ea21d9e3d2808ead582a", func := "loop.example/musicengine/laws.FnExactKeyAlter", spec := "fnExactKeyAlter", named := ["loop.example/musicengine/impl.keyAlters"], apart := false, laid := [("loop.example/musicengine/impl.keyAlters", laid_loop_example_musicengine_impl_keyAlters)] }
def FnExactKeyAlterSaid : Prop := fnExactKeyAlterRow.holds Tryd.pinned (OpenSpec.ofChange fnExactKeyAlterSpec)

/-- ITS FALSE NEIGHBOUR: 'it returns false'. Refute it at one input. -/
def fnExactKeyAlterWrong : ChangeSpec := { name := "fnExactKeyAlter", vars := ["loop.example/musicengine/impl.keyAlters"], fn := fun _ => fun
  | [d1, d2, g1] => { results := [.lit (.bool false)], args := [d1, d2], vars := [g1] }
  | _ => none }
def FnExactKeyAlterWrongFalsely : Prop := fnExactKeyAlterRow.holds Tryd.pinned (OpenSpec.ofChange fnExactKeyAlterWrong)

/-- 'laws.FnExactKeyTonic': WHATEVER THE INPUT: true; the input reads as it did. -/
def fnExactKeyTonicSpec : ChangeSpec := { name := "fnExactKeyTonic", vars := ["loop.example/musicengine/impl.keyAlters"], fn := fun _ => fun
  | [d1, d2, g1] => { results := [.lit (.bool true)], args := [d1, d2], vars := [g1] }
  | _ => none }
def fnExactKeyTonicRow : OpenClaim := { program := "ytllcokbnjlodbaadoor", sum := "84bd6b756b91e3abed375e6368b7ff17cd36344b2696ea21d9e3d2808ead582a", func := "loop.example/musicengine/laws.FnExactKeyTonic", spec := "fnExactKeyTonic", named := ["loop.example/musicengine/impl.keyAlters"], apart := false, laid := [("loop.example/musicengine/impl.keyAlters", laid_loop_example_musicengine_impl_keyAlters)] }
def FnExactKeyTonicSaid : Prop := fnExactKeyTonicRow.holds Tryd.pinned (OpenSpec.ofChange fnExactKeyTonicSpec)

/-- ITS FALSE NEIGHBOUR: 'it returns false'. Refute it at one input. -/
def fnExactKeyTonicWrong : ChangeSpec := { name := "fnExactKeyTonic", vars := ["loop.example/musicengine/impl.keyAlters"], fn := fun _ => fun
  | [d1, d2, g1] => { results := [.lit (.bool false)], args := [d1, d2], vars := [g1] }
  | _ => none }
def FnExactKeyTonicWrongFalsely : Prop := fnExactKeyTonicRow.holds Tryd.pinned (OpenSpec.ofChange fnExactKeyTonicWrong)

/-- 'laws.FnExactKeyScale': WHATEVER THE INPUT: true; the input reads as it did. -/
def fnExactKeyScaleSpec : ChangeSpec := { name := "fnExactKeyScale", vars := ["loop.example/musicengine/impl.keyAlters"], fn := fun _ => fun
  | [d1, d2, g1] => { results := [.lit (.bool true)], args := [d1, d2], vars := [g1] }
  | _ => none }
def fnExactKeyScaleRow : OpenClaim := { program := "ytllcokbnjlodbaadoor", sum := "84bd6b756b91e3abed375e6368b7ff17cd36344b2696ea21d9e3d2808ead582a", func := "loop.example/musicengine/laws.FnExactKeyScale", spec := "fnExactKeyScale", named := ["loop.example/musicengine/impl.keyAlters"], apart := false, laid := [("loop.example/musicengine/impl.keyAlters", laid_loop_example_musicengine_impl_keyAlters)] }
def FnExactKeyScaleSaid : Prop := fnExactKeyScaleRow.holds Tryd.pinned (OpenSpec.ofChange fnExactKeyScaleSpec)

/-- ITS FALSE NEIGHBOUR: 'it returns false'. Refute it at one input. -/
def fnExactKeyScaleWrong : ChangeSpec := { name := "fnExactKeyScale", vars := ["loop.example/musicengine/impl.keyAlters"], fn := fun _ => fun
  | [d1, d2, g1] => { results := [.lit (.bool false)], args := [d1, d2], vars := [g1] }
  | _ => none }
def FnExactKeyScaleWrongFalsely : Prop := fnExactKeyScaleRow.holds Tryd.pinned (OpenSpec.ofChange fnExactKeyScaleWrong)

/-- 'laws.FnExactInKey': WHATEVER THE INPUT: true; the input reads as it did. -/
def fnExactInKeySpec : ChangeSpec := { name := "fnExactInKey", vars := ["loop.example/musicengine/impl.keyAlters"], fn := fun _ => fun
  | [d1, d2, g1] => { results := [.lit (.bool true)], args := [d1, d2], vars := [g1] }
  | _ => none }
def fnExactInKeyRow : OpenClaim := { program := "ytllcokbnjlodbaadoor", sum := "84bd6b756b91e3abed375e6368b7ff17cd36344b2696ea21d9e3d2808ead582a", func := "loop.example/musicengine/laws.FnExactInKey", spec := "fnExactInKey", named := ["loop.example/musicengine/impl.keyAlters"], apart := false, laid := [("loop.example/musicengine/impl.keyAlters", laid_loop_example_musicengine_impl_keyAlters)] }
def FnExactInKeySaid : Prop := fnExactInKeyRow.holds Tryd.pinned (OpenSpec.ofChange fnExactInKeySpec)

/-- ITS FALSE NEIGHBOUR: 'it returns false'. Refute it at one input. -/
def fnExactInKeyWrong : ChangeSpec := { name := "fnExactInKey", vars := ["loop.example/musicengine/impl.keyAlters"], fn := fun _ => fun
  | [d1, d2, g1] => { results := [.lit (.bool false)], args := [d1, d2], vars := [g1] }
  | _ => none }
def FnExactInKeyWrongFalsely : Prop := fnExactInKeyRow.holds Tryd.pinned (OpenSpec.ofChange fnExactInKeyWrong)

/-- 'laws.FnExactKeyOf': WHATEVER THE INPUT: true; the input reads as it did. -/
def fnExactKeyOfSpec : ChangeSpec := { name := "fnExactKeyOf", vars := ["loop.example/musicengine/impl.keyAlters"], fn := fun _ => fun
  | [d1, d2, g1] => { results := [.lit (.bool true)], args := [d1, d2], vars := [g1] }
  | _ => none }
def fnExactKeyOfRow : OpenClaim := { program := "ytllcokbnjlodbaadoor", sum := "84bd6b756b91e3abed375e6368b7ff17cd36344b2696ea21d9e3d2808ead582a", func := "loop.example/musicengine/laws.FnExactKeyOf", spec := "fnExactKeyOf", named := ["loop.example/musicengine/impl.keyAlters"], apart := false, laid := [("loop.example/musicengine/impl.keyAlters", laid_loop_example_musicengine_impl_keyAlters)] }
def FnExactKeyOfSaid : Prop := fnExactKeyOfRow.holds Tryd.pinned (OpenSpec.ofChange fnExactKeyOfSpec)

/-- ITS FALSE NEIGHBOUR: 'it returns false'. Refute it at one input. -/
def fnExactKeyOfWrong : ChangeSpec := { name := "fnExactKeyOf", vars := ["loop.example/musicengine/impl.keyAlters"], fn := fun _ => fun
  | [d1, d2, g1] => { results := [.lit (.bool false)], args := [d1, d2], vars := [g1] }
  | _ => none }
def FnExactKeyOfWrongFalsely : Prop := fnExactKeyOfRow.holds Tryd.pinned (OpenSpec.ofChange fnExactKeyOfWrong)

/-- 'laws.FnExactDegreeOf': WHATEVER THE INPUT: true; the input reads as it did. -/
def fnExactDegreeOfSpec : ChangeSpec := { name := "fnExactDegreeOf", vars := ["loop.example/musicengine/impl.keyAlters"], fn := fun _ => fun
  | [d1, d2, d3, g1] => { results := [.lit (.bool true)], args := [d1, d2, d3], vars := [g1] }
  | _ => none }
def fnExactDegreeOfRow : OpenClaim := { program := "ytllcokbnjlodbaadoor", sum := "84bd6b756b91e3abed375e6368b7ff17cd36344b2696ea21d9e3d2808ead582a", func := "loop.example/musicengine/laws.FnExactDegreeOf", spec := "fnExactDegreeOf", named := ["loop.example/musicengine/impl.keyAlters"], apart := false, laid := [("loop.example/musicengine/impl.keyAlters", laid_loop_example_musicengine_impl_keyAlters)] }
def FnExactDegreeOfSaid : Prop := fnExactDegreeOfRow.holds Tryd.pinned (OpenSpec.ofChange fnExactDegreeOfSpec)

/-- ITS FALSE NEIGHBOUR: 'it returns false'. Refute it at one input. -/
def fnExactDegreeOfWrong : ChangeSpec := { name := "fnExactDegreeOf", vars := ["loop.example/musicengine/impl.keyAlters"], fn := fun _ => fun
  | [d1, d2, d3, g1] => { results := [.lit (.bool false)], args := [d1, d2, d3], vars := [g1] }
  | _ => none }
def FnExactDegreeOfWrongFalsely : Prop := fnExactDegreeOfRow.holds Tryd.pinned (OpenSpec.ofChange fnExactDegreeOfWrong)

/-- 'laws.FnKeyTonic': WHATEVER THE INPUT: true; the input reads as it did. -/
def fnKeyTonicSpec : ChangeSpec := { name := "fnKeyTonic", vars := ["loop.example/musicengine/impl.keyAlters", "loop.example/musicengine/impl.stepHalves"], fn := fun _ => fun
  | [d, g1, g2] => { results := [.lit (.bool true)], args := [d], vars := [g1, g2] }
  | _ => none }
def fnKeyTonicRow : OpenClaim := { program := "ytllcokbnjlodbaadoor", sum := "84bd6b756b91e3abed375e6368b7ff17cd36344b2696ea21d9e3d2808ead582a", func := "loop.example/musicengine/laws.FnKeyTonic", spec := "fnKeyTonic", named := ["loop.example/musicengine/impl.keyAlters", "loop.example/musicengine/impl.stepHalves"], apart := false, laid := [("loop.example/musicengine/impl.stepHalves", laid_loop_example_musicengine_impl_stepHalves), ("loop.example/musicengine/impl.keyAlters", laid_loop_example_musicengine_impl_keyAlters)] }
def FnKeyTonicSaid : Prop := fnKeyTonicRow.holds Tryd.pinned (OpenSpec.ofChange fnKeyTonicSpec)

/-- ITS FALSE NEIGHBOUR: 'it returns false'. Refute it at one input. -/
def fnKeyTonicWrong : ChangeSpec := { name := "fnKeyTonic", vars := ["loop.example/musicengine/impl.keyAlters", "loop.example/musicengine/impl.stepHalves"], fn := fun _ => fun
  | [d, g1, g2] => { results := [.lit (.bool false)], args := [d], vars := [g1, g2] }
  | _ => none }
def FnKeyTonicWrongFalsely : Prop := fnKeyTonicRow.holds Tryd.pinned (OpenSpec.ofChange fnKeyTonicWrong)

/-- 'laws.FnKeyScale': WHATEVER THE INPUT: true; the input reads as it did. -/
def fnKeyScaleSpec : ChangeSpec := { name := "fnKeyScale", vars := ["loop.example/musicengine/impl.keyAlters", "loop.example/musicengine/impl.stepHalves"], fn := fun _ => fun
  | [d, g1, g2] => { results := [.lit (.bool true)], args := [d], vars := [g1, g2] }
  | _ => none }
def fnKeyScaleRow : OpenClaim := { program := "ytllcokbnjlodbaadoor", sum := "84bd6b756b91e3abed375e6368b7ff17cd36344b2696ea21d9e3d2808ead582a", func := "loop.example/musicengine/laws.FnKeyScale", spec := "fnKeyScale", named := ["loop.example/musicengine/impl.keyAlters", "loop.example/musicengine/impl.stepHalves"], apart := false, laid := [("loop.example/musicengine/impl.stepHalves", laid_loop_example_musicengine_impl_stepHalves), ("loop.example/musicengine/impl.keyAlters", laid_loop_example_musicengine_impl_keyAlters)] }
def FnKeyScaleSaid : Prop := fnKeyScaleRow.holds Tryd.pinned (OpenSpec.ofChange fnKeyScaleSpec)

/-- ITS FALSE NEIGHBOUR: 'it returns false'. Refute it at one input. -/
def fnKeyScaleWrong : ChangeSpec := { name := "fnKeyScale", vars := ["loop.example/musicengine/impl.keyAlters", "loop.example/musicengine/impl.stepHalves"], fn := fun _ => fun
  | [d, g1, g2] => { results := [.lit (.bool false)], args := [d], vars := [g1, g2] }
  | _ => none }
def FnKeyScaleWrongFalsely : Prop := fnKeyScaleRow.holds Tryd.pinned (OpenSpec.ofChange fnKeyScaleWrong)

/-- 'laws.FnInKey': WHATEVER THE INPUT: true; the input reads as it did. -/
def fnInKeySpec : ChangeSpec := { name := "fnInKey", vars := ["loop.example/musicengine/impl.keyAlters", "loop.example/musicengine/impl.stepHalves"], fn := fun _ => fun
  | [d, g1, g2] => { results := [.lit (.bool true)], args := [d], vars := [g1, g2] }
  | _ => none }
def fnInKeyRow : OpenClaim := { program := "ytllcokbnjlodbaadoor", sum := "84bd6b756b91e3abed375e6368b7ff17cd36344b2696ea21d9e3d2808ead582a", func := "loop.example/musicengine/laws.FnInKey", spec := "fnInKey", named := ["loop.example/musicengine/impl.keyAlters", "loop.example/musicengine/impl.stepHalves"], apart := false, laid := [("loop.example/musicengine/impl.stepHalves", laid_loop_example_musicengine_impl_stepHalves), ("loop.example/musicengine/impl.keyAlters", laid_loop_example_musicengine_impl_keyAlters)] }
def FnInKeySaid : Prop := fnInKeyRow.holds Tryd.pinned (OpenSpec.ofChange fnInKeySpec)

/-- ITS FALSE NEIGHBOUR: 'it returns false'. Refute it at one input. -/
def fnInKeyWrong : ChangeSpec := { name := "fnInKey", vars := ["loop.example/musicengine/impl.keyAlters", "loop.example/musicengine/impl.stepHalves"], fn := fun _ => fun
  | [d, g1, g2] => { results := [.lit (.bool false)], args := [d], vars := [g1, g2] }
  | _ => none }
def FnInKeyWrongFalsely : Prop := fnInKeyRow.holds Tryd.pinned (OpenSpec.ofChange fnInKeyWrong)

/-- 'laws.FnKeyOf': WHATEVER THE INPUT: true; the input reads as it did. -/
def fnKeyOfSpec : ChangeSpec := { name := "fnKeyOf", vars := ["loop.example/musicengine/impl.keyAlters", "loop.example/musicengine/impl.stepHalves"], fn := fun _ => fun
  | [d, g1, g2] => { results := [.lit (.bool true)], args := [d], vars := [g1, g2] }
  | _ => none }
def fnKeyOfRow : OpenClaim := { program := "ytllcokbnjlodbaadoor", sum := "84bd6b756b91e3abed375e6368b7ff17cd36344b2696ea21d9e3d2808ead582a", func := "loop.example/musicengine/laws.FnKeyOf", spec := "fnKeyOf", named := ["loop.example/musicengine/impl.keyAlters", "loop.example/musicengine/impl.stepHalves"], apart := false, laid := [("loop.example/musicengine/impl.stepHalves", laid_loop_example_musicengine_impl_stepHalves), ("loop.example/musicengine/impl.keyAlters", laid_loop_example_musicengine_impl_keyAlters)] }
def FnKeyOfSaid : Prop := fnKeyOfRow.holds Tryd.pinned (OpenSpec.ofChange fnKeyOfSpec)

/-- ITS FALSE NEIGHBOUR: 'it returns false'. Refute it at one input. -/
def fnKeyOfWrong : ChangeSpec := { name := "fnKeyOf", vars := ["loop.example/musicengine/impl.keyAlters", "loop.example/musicengine/impl.stepHalves"], fn := fun _ => fun
  | [d, g1, g2] => { results := [.lit (.bool false)], args := [d], vars := [g1, g2] }
  | _ => none }
def FnKeyOfWrongFalsely : Prop := fnKeyOfRow.holds Tryd.pinned (OpenSpec.ofChange fnKeyOfWrong)

/-- 'laws.FnDegreeOf': WHATEVER THE INPUT: true; the input reads as it did. -/
def fnDegreeOfSpec : ChangeSpec := { name := "fnDegreeOf", vars := ["loop.example/musicengine/impl.keyAlters", "loop.example/musicengine/impl.stepHalves"], fn := fun _ => fun
  | [d, g1, g2] => { results := [.lit (.bool true)], args := [d], vars := [g1, g2] }
  | _ => none }
def fnDegreeOfRow : OpenClaim := { program := "ytllcokbnjlodbaadoor", sum := "84bd6b756b91e3abed375e6368b7ff17cd36344b2696ea21d9e3d2808ead582a", func := "loop.example/musicengine/laws.FnDegreeOf", spec := "fnDegreeOf", named := ["loop.example/musicengine/impl.keyAlters", "loop.example/musicengine/impl.stepHalves"], apart := false, laid := [("loop.example/musicengine/impl.stepHalves", laid_loop_example_musicengine_impl_stepHalves), ("loop.example/musicengine/impl.keyAlters", laid_loop_example_musicengine_impl_keyAlters)] }
def FnDegreeOfSaid : Prop := fnDegreeOfRow.holds Tryd.pinned (OpenSpec.ofChange fnDegreeOfSpec)

/-- ITS FALSE NEIGHBOUR: 'it returns false'. Refute it at one input. -/
def fnDegreeOfWrong : ChangeSpec := { name := "fnDegreeOf", vars := ["loop.example/musicengine/impl.keyAlters", "loop.example/musicengine/impl.stepHalves"], fn := fun _ => fun
  | [d, g1, g2] => { results := [.lit (.bool false)], args := [d], vars := [g1, g2] }
  | _ => none }
def FnDegreeOfWrongFalsely : Prop := fnDegreeOfRow.holds Tryd.pinned (OpenSpec.ofChange fnDegreeOfWrong)

/-- 'laws.FnOctaveUp': WHATEVER THE INPUT: true; the input reads as it did. -/
def fnOctaveUpSpec : ChangeSpec := { name := "fnOctaveUp", vars := ["loop.example/musicengine/impl.stepHalves", "loop.example/musicengine/impl.keyAlters"], fn := fun _ => fun
  | [d, g1, g2] => { results := [.lit (.bool true)], args := [d], vars := [g1, g2] }
  | _ => none }
def fnOctaveUpRow : OpenClaim := { program := "ytllcokbnjlodbaadoor", sum := "84bd6b756b91e3abed375e6368b7ff17cd36344b2696ea21d9e3d2808ead582a", func := "loop.example/musicengine/laws.FnOctaveUp", spec := "fnOctaveUp", named := ["loop.example/musicengine/impl.stepHalves", "loop.example/musicengine/impl.keyAlters"], apart := false, laid := [("loop.example/musicengine/impl.stepHalves", laid_loop_example_musicengine_impl_stepHalves), ("loop.example/musicengine/impl.keyAlters", laid_loop_example_musicengine_impl_keyAlters)] }
def FnOctaveUpSaid : Prop := fnOctaveUpRow.holds Tryd.pinned (OpenSpec.ofChange fnOctaveUpSpec)

/-- ITS FALSE NEIGHBOUR: 'it returns false'. Refute it at one input. -/
def fnOctaveUpWrong : ChangeSpec := { name := "fnOctaveUp", vars := ["loop.example/musicengine/impl.stepHalves", "loop.example/musicengine/impl.keyAlters"], fn := fun _ => fun
  | [d, g1, g2] => { results := [.lit (.bool false)], args := [d], vars := [g1, g2] }
  | _ => none }
def FnOctaveUpWrongFalsely : Prop := fnOctaveUpRow.holds Tryd.pinned (OpenSpec.ofChange fnOctaveUpWrong)

/- THE SECOND FORM. 'bulk': how many values and letters a reading holds, each counted each time it is reached (what is shared counts as often as it is met; a slice's spare places count too). A statement '..UptoSaid' is the law's where the arguments, and the package variables that the reading takes, are together of bulk at most 1048576: NARROWER than '..Said'. Prove '..Said' where nothing that the law and all that it calls make is longer than what came in: it says more and counts as full. Else prove '..UptoSaid'. A law counts once. -/
mutual
def uptoBulk {H : Type} : DataW H → Nat
  | .lit (.string bytes) => bytes.length + 1
  | .lit _ => 1
  | .nil => 1
  | .ptr d => uptoBulk d + 1
  | .slice elems spare => uptoBulkAll elems + uptoBulkAll spare + 1
  | .agg parts => uptoBulkAll parts + 1
  | .iface _ d => uptoBulk d + 1
  | .map entries => uptoBulkEntries entries + 1
  | .held _ => 1
def uptoBulkAll {H : Type} : List (DataW H) → Nat
  | [] => 0
  | d :: r => uptoBulk d + uptoBulkAll r
def uptoBulkEntries {H : Type} : List (Lit × DataW H) → Nat
  | [] => 0
  | x :: r => uptoBulkEntry x + uptoBulkEntries r
def uptoBulkEntry {H : Type} : Lit × DataW H → Nat
  | (.string bytes, d) => bytes.length + uptoBulk d + 1
  | (_, d) => uptoBulk d + 1
 end
def uptoSmall : (H : Type) → List (DataW H) → Bool := fun _ ds => decide (uptoBulkAll ds ≤ 1048576)
def OpenSpec.upto (s : _root_.Go.ChangeSpec) : _root_.Go.OpenSpec := { _root_.Go.OpenSpec.ofChange s with cond := some uptoSmall }

/-- 'laws.FnExactKeyAlter', WHERE WHAT IT READS IS OF BULK AT MOST 1048576: true; the input reads as it did. -/
def fnExactKeyAlterUptoRow : OpenClaim := { program := "ytllcokbnjlodbaadoor", sum := "84bd6b756b91e3abed375e6368b7ff17cd36344b2696ea21d9e3d2808ead582a", func := "loop.example/musicengine/laws.FnExactKeyAlter", spec := "fnExactKeyAlter", named := ["loop.example/musicengine/impl.keyAlters"], apart := false, laid := [("loop.example/musicengine/impl.keyAlters", laid_loop_example_musicengine_impl_keyAlters)], narrowed := true }
def FnExactKeyAlterUptoSaid : Prop := fnExactKeyAlterUptoRow.holds Tryd.pinned (OpenSpec.upto fnExactKeyAlterSpec)

/-- 'laws.FnExactKeyTonic', WHERE WHAT IT READS IS OF BULK AT MOST 1048576: true; the input reads as it did. -/
def fnExactKeyTonicUptoRow : OpenClaim := { program := "ytllcokbnjlodbaadoor", sum := "84bd6b756b91e3abed375e6368b7ff17cd36344b2696ea21d9e3d2808ead582a", func := "loop.example/musicengine/laws.FnExactKeyTonic", spec := "fnExactKeyTonic", named := ["loop.example/musicengine/impl.keyAlters"], apart := false, laid := [("loop.example/musicengine/impl.keyAlters", laid_loop_example_musicengine_impl_keyAlters)], narrowed := true }
def FnExactKeyTonicUptoSaid : Prop := fnExactKeyTonicUptoRow.holds Tryd.pinned (OpenSpec.upto fnExactKeyTonicSpec)

/-- 'laws.FnExactKeyScale', WHERE WHAT IT READS IS OF BULK AT MOST 1048576: true; the input reads as it did. -/
def fnExactKeyScaleUptoRow : OpenClaim := { program := "ytllcokbnjlodbaadoor", sum := "84bd6b756b91e3abed375e6368b7ff17cd36344b2696ea21d9e3d2808ead582a", func := "loop.example/musicengine/laws.FnExactKeyScale", spec := "fnExactKeyScale", named := ["loop.example/musicengine/impl.keyAlters"], apart := false, laid := [("loop.example/musicengine/impl.keyAlters", laid_loop_example_musicengine_impl_keyAlters)], narrowed := true }
def FnExactKeyScaleUptoSaid : Prop := fnExactKeyScaleUptoRow.holds Tryd.pinned (OpenSpec.upto fnExactKeyScaleSpec)

/-- 'laws.FnExactInKey', WHERE WHAT IT READS IS OF BULK AT MOST 1048576: true; the input reads as it did. -/
def fnExactInKeyUptoRow : OpenClaim := { program := "ytllcokbnjlodbaadoor", sum := "84bd6b756b91e3abed375e6368b7ff17cd36344b2696ea21d9e3d2808ead582a", func := "loop.example/musicengine/laws.FnExactInKey", spec := "fnExactInKey", named := ["loop.example/musicengine/impl.keyAlters"], apart := false, laid := [("loop.example/musicengine/impl.keyAlters", laid_loop_example_musicengine_impl_keyAlters)], narrowed := true }
def FnExactInKeyUptoSaid : Prop := fnExactInKeyUptoRow.holds Tryd.pinned (OpenSpec.upto fnExactInKeySpec)

/-- 'laws.FnExactKeyOf', WHERE WHAT IT READS IS OF BULK AT MOST 1048576: true; the input reads as it did. -/
def fnExactKeyOfUptoRow : OpenClaim := { program := "ytllcokbnjlodbaadoor", sum := "84bd6b756b91e3abed375e6368b7ff17cd36344b2696ea21d9e3d2808ead582a", func := "loop.example/musicengine/laws.FnExactKeyOf", spec := "fnExactKeyOf", named := ["loop.example/musicengine/impl.keyAlters"], apart := false, laid := [("loop.example/musicengine/impl.keyAlters", laid_loop_example_musicengine_impl_keyAlters)], narrowed := true }
def FnExactKeyOfUptoSaid : Prop := fnExactKeyOfUptoRow.holds Tryd.pinned (OpenSpec.upto fnExactKeyOfSpec)

/-- 'laws.FnExactDegreeOf', WHERE WHAT IT READS IS OF BULK AT MOST 1048576: true; the input reads as it did. -/
def fnExactDegreeOfUptoRow : OpenClaim := { program := "ytllcokbnjlodbaadoor", sum := "84bd6b756b91e3abed375e6368b7ff17cd36344b2696ea21d9e3d2808ead582a", func := "loop.example/musicengine/laws.FnExactDegreeOf", spec := "fnExactDegreeOf", named := ["loop.example/musicengine/impl.keyAlters"], apart := false, laid := [("loop.example/musicengine/impl.keyAlters", laid_loop_example_musicengine_impl_keyAlters)], narrowed := true }
def FnExactDegreeOfUptoSaid : Prop := fnExactDegreeOfUptoRow.holds Tryd.pinned (OpenSpec.upto fnExactDegreeOfSpec)

/-- 'laws.FnKeyTonic', WHERE WHAT IT READS IS OF BULK AT MOST 1048576: true; the input reads as it did. -/
def fnKeyTonicUptoRow : OpenClaim := { program := "ytllcokbnjlodbaadoor", sum := "84bd6b756b91e3abed375e6368b7ff17cd36344b2696ea21d9e3d2808ead582a", func := "loop.example/musicengine/laws.FnKeyTonic", spec := "fnKeyTonic", named := ["loop.example/musicengine/impl.keyAlters", "loop.example/musicengine/impl.stepHalves"], apart := false, laid := [("loop.example/musicengine/impl.stepHalves", laid_loop_example_musicengine_impl_stepHalves), ("loop.example/musicengine/impl.keyAlters", laid_loop_example_musicengine_impl_keyAlters)], narrowed := true }
def FnKeyTonicUptoSaid : Prop := fnKeyTonicUptoRow.holds Tryd.pinned (OpenSpec.upto fnKeyTonicSpec)

/-- 'laws.FnKeyScale', WHERE WHAT IT READS IS OF BULK AT MOST 1048576: true; the input reads as it did. -/
def fnKeyScaleUptoRow : OpenClaim := { program := "ytllcokbnjlodbaadoor", sum := "84bd6b756b91e3abed375e6368b7ff17cd36344b2696ea21d9e3d2808ead582a", func := "loop.example/musicengine/laws.FnKeyScale", spec := "fnKeyScale", named := ["loop.example/musicengine/impl.keyAlters", "loop.example/musicengine/impl.stepHalves"], apart := false, laid := [("loop.example/musicengine/impl.stepHalves", laid_loop_example_musicengine_impl_stepHalves), ("loop.example/musicengine/impl.keyAlters", laid_loop_example_musicengine_impl_keyAlters)], narrowed := true }
def FnKeyScaleUptoSaid : Prop := fnKeyScaleUptoRow.holds Tryd.pinned (OpenSpec.upto fnKeyScaleSpec)

/-- 'laws.FnInKey', WHERE WHAT IT READS IS OF BULK AT MOST 1048576: true; the input reads as it did. -/
def fnInKeyUptoRow : OpenClaim := { program := "ytllcokbnjlodbaadoor", sum := "84bd6b756b91e3abed375e6368b7ff17cd36344b2696ea21d9e3d2808ead582a", func := "loop.example/musicengine/laws.FnInKey", spec := "fnInKey", named := ["loop.example/musicengine/impl.keyAlters", "loop.example/musicengine/impl.stepHalves"], apart := false, laid := [("loop.example/musicengine/impl.stepHalves", laid_loop_example_musicengine_impl_stepHalves), ("loop.example/musicengine/impl.keyAlters", laid_loop_example_musicengine_impl_keyAlters)], narrowed := true }
def FnInKeyUptoSaid : Prop := fnInKeyUptoRow.holds Tryd.pinned (OpenSpec.upto fnInKeySpec)

/-- 'laws.FnKeyOf', WHERE WHAT IT READS IS OF BULK AT MOST 1048576: true; the input reads as it did. -/
def fnKeyOfUptoRow : OpenClaim := { program := "ytllcokbnjlodbaadoor", sum := "84bd6b756b91e3abed375e6368b7ff17cd36344b2696ea21d9e3d2808ead582a", func := "loop.example/musicengine/laws.FnKeyOf", spec := "fnKeyOf", named := ["loop.example/musicengine/impl.keyAlters", "loop.example/musicengine/impl.stepHalves"], apart := false, laid := [("loop.example/musicengine/impl.stepHalves", laid_loop_example_musicengine_impl_stepHalves), ("loop.example/musicengine/impl.keyAlters", laid_loop_example_musicengine_impl_keyAlters)], narrowed := true }
def FnKeyOfUptoSaid : Prop := fnKeyOfUptoRow.holds Tryd.pinned (OpenSpec.upto fnKeyOfSpec)

/-- 'laws.FnDegreeOf', WHERE WHAT IT READS IS OF BULK AT MOST 1048576: true; the input reads as it did. -/
def fnDegreeOfUptoRow : OpenClaim := { program := "ytllcokbnjlodbaadoor", sum := "84bd6b756b91e3abed375e6368b7ff17cd36344b2696ea21d9e3d2808ead582a", func := "loop.example/musicengine/laws.FnDegreeOf", spec := "fnDegreeOf", named := ["loop.example/musicengine/impl.keyAlters", "loop.example/musicengine/impl.stepHalves"], apart := false, laid := [("loop.example/musicengine/impl.stepHalves", laid_loop_example_musicengine_impl_stepHalves), ("loop.example/musicengine/impl.keyAlters", laid_loop_example_musicengine_impl_keyAlters)], narrowed := true }
def FnDegreeOfUptoSaid : Prop := fnDegreeOfUptoRow.holds Tryd.pinned (OpenSpec.upto fnDegreeOfSpec)

/-- 'laws.FnOctaveUp', WHERE WHAT IT READS IS OF BULK AT MOST 1048576: true; the input reads as it did. -/
def fnOctaveUpUptoRow : OpenClaim := { program := "ytllcokbnjlodbaadoor", sum := "84bd6b756b91e3abed375e6368b7ff17cd36344b2696ea21d9e3d2808ead582a", func := "loop.example/musicengine/laws.FnOctaveUp", spec := "fnOctaveUp", named := ["loop.example/musicengine/impl.stepHalves", "loop.example/musicengine/impl.keyAlters"], apart := false, laid := [("loop.example/musicengine/impl.stepHalves", laid_loop_example_musicengine_impl_stepHalves), ("loop.example/musicengine/impl.keyAlters", laid_loop_example_musicengine_impl_keyAlters)], narrowed := true }
def FnOctaveUpUptoSaid : Prop := fnOctaveUpUptoRow.holds Tryd.pinned (OpenSpec.upto fnOctaveUpSpec)

end Rows
end Go.Proofs.YtllcokbnjlodbaaDoor
