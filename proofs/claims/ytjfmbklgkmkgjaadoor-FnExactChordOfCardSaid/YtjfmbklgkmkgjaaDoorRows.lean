/-
  NARROWER THAN 'FOR EVERY INPUT', by the rows' own cells (each row's printed sentence says how): FnChordOf: laid · FnChordOn: laid · FnDegreeOfChord: laid · FnProgressionFault: laid · FnCadenceOf: laid · FnChordTurn: laid · FnChordMoved: laid · FnExactChordOf: laid · FnExactChordOn: laid · FnExactDegreeOfChord: laid.
  DERIVED. THE GIVEN ROWS OF THIS SEAT. 10 by the template 'for every input the law returns true; each argument reads behind the call as it read before'; 0 by the template 'total and deterministic' (their statements: YtjfmbklgkmkgjaaDoorTotals.lean).
  GIVEN WITH THE SEED: the statements are not yours to turn. If you find one false, say at which input.
  Laid BY PROGRAM, IN A SANDBOX (cutbox-rows.mjs): the forced cells as the released guide's own fill.sh prints them over the translation 2073d0f272e65d1e… (all of the seat's roots in one cut). By AI agents, Wed Nov 11 2026. No macro, syntax, notation, axiom, sorry.
-/
import Derived.Test.YtjfmbklgkmkgjaaDoorChecked
import GoSem.Claim
import GoSem.ClaimJoined
import GoSem.ClaimMapViews
import Derived.JoinedTies
import Derived.KernelRfl
namespace Go.Proofs.YtjfmbklgkmkgjaaDoor
/- THE CELL 'sum', in the pinned program and in every row, IS THE sha256 OF THE DUMP (.gsa) THAT YtjfmbklgkmkgjaaDoorProg.lean LOADS. Nothing in Lean hashes anything: it is a label: what it is worth is what the hold of that sum in a sandbox is worth. -/
noncomputable def Tryd.pinned : Pinned := { name := "ytjfmbklgkmkgjaadoor", sum := "2073d0f272e65d1eba6236af792653ad62adff5856b0b5d4d0cc6c2edb11b7d1", checked := Tryd.checked }
namespace Rows
def none {H : Type} : Left H := { results := [], args := [] }

/- WHAT THE LISTED PACKAGE-LEVEL VARIABLES READ AS WHEN THE CALL BEGINS. Each datum BY PROGRAM (the guide's laid-datum.mjs) off the statement by which the dump's own 'gosem.cut.vars' lays the variable. In a bare row this is a premise. The card (YtjfmbklgkmkgjaaDoorCards.lean) ties it to the program's text. -/
def laid_math_bits_deBruijn32tab {H : Type} : DataW H := .agg [.lit (.int .u8 0), .lit (.int .u8 1), .lit (.int .u8 28), .lit (.int .u8 2), .lit (.int .u8 29), .lit (.int .u8 14), .lit (.int .u8 24), .lit (.int .u8 3), .lit (.int .u8 30), .lit (.int .u8 22), .lit (.int .u8 20), .lit (.int .u8 15), .lit (.int .u8 25), .lit (.int .u8 17), .lit (.int .u8 4), .lit (.int .u8 8), .lit (.int .u8 31), .lit (.int .u8 27), .lit (.int .u8 13), .lit (.int .u8 23), .lit (.int .u8 21), .lit (.int .u8 19), .lit (.int .u8 16), .lit (.int .u8 7), .lit (.int .u8 26), .lit (.int .u8 12), .lit (.int .u8 18), .lit (.int .u8 6), .lit (.int .u8 11), .lit (.int .u8 5), .lit (.int .u8 10), .lit (.int .u8 9)]
def laid_loop_example_musicengine_impl_kindClasses {H : Type} : DataW H := .agg [.lit (.int .u16 145), .lit (.int .u16 137), .lit (.int .u16 73), .lit (.int .u16 273), .lit (.int .u16 1169), .lit (.int .u16 2193), .lit (.int .u16 1161), .lit (.int .u16 1097), .lit (.int .u16 585)]
def laid_loop_example_musicengine_impl_stepHalves {H : Type} : DataW H := .agg [.lit (.int .i64 0), .lit (.int .i64 2), .lit (.int .i64 4), .lit (.int .i64 5), .lit (.int .i64 7), .lit (.int .i64 9), .lit (.int .i64 11)]
def laid_loop_example_musicengine_impl_keyAlters {H : Type} : DataW H := .agg [.agg [.lit (.int .i64 (-1)), .lit (.int .i64 (-1)), .lit (.int .i64 (-1)), .lit (.int .i64 (-1)), .lit (.int .i64 (-1)), .lit (.int .i64 (-1)), .lit (.int .i64 (-1))], .agg [.lit (.int .i64 (-1)), .lit (.int .i64 (-1)), .lit (.int .i64 (-1)), .lit (.int .i64 0), .lit (.int .i64 (-1)), .lit (.int .i64 (-1)), .lit (.int .i64 (-1))], .agg [.lit (.int .i64 0), .lit (.int .i64 (-1)), .lit (.int .i64 (-1)), .lit (.int .i64 0), .lit (.int .i64 (-1)), .lit (.int .i64 (-1)), .lit (.int .i64 (-1))], .agg [.lit (.int .i64 0), .lit (.int .i64 (-1)), .lit (.int .i64 (-1)), .lit (.int .i64 0), .lit (.int .i64 0), .lit (.int .i64 (-1)), .lit (.int .i64 (-1))], .agg [.lit (.int .i64 0), .lit (.int .i64 0), .lit (.int .i64 (-1)), .lit (.int .i64 0), .lit (.int .i64 0), .lit (.int .i64 (-1)), .lit (.int .i64 (-1))], .agg [.lit (.int .i64 0), .lit (.int .i64 0), .lit (.int .i64 (-1)), .lit (.int .i64 0), .lit (.int .i64 0), .lit (.int .i64 0), .lit (.int .i64 (-1))], .agg [.lit (.int .i64 0), .lit (.int .i64 0), .lit (.int .i64 0), .lit (.int .i64 0), .lit (.int .i64 0), .lit (.int .i64 0), .lit (.int .i64 (-1))], .agg [.lit (.int .i64 0), .lit (.int .i64 0), .lit (.int .i64 0), .lit (.int .i64 0), .lit (.int .i64 0), .lit (.int .i64 0), .lit (.int .i64 0)], .agg [.lit (.int .i64 0), .lit (.int .i64 0), .lit (.int .i64 0), .lit (.int .i64 1), .lit (.int .i64 0), .lit (.int .i64 0), .lit (.int .i64 0)], .agg [.lit (.int .i64 1), .lit (.int .i64 0), .lit (.int .i64 0), .lit (.int .i64 1), .lit (.int .i64 0), .lit (.int .i64 0), .lit (.int .i64 0)], .agg [.lit (.int .i64 1), .lit (.int .i64 0), .lit (.int .i64 0), .lit (.int .i64 1), .lit (.int .i64 1), .lit (.int .i64 0), .lit (.int .i64 0)], .agg [.lit (.int .i64 1), .lit (.int .i64 1), .lit (.int .i64 0), .lit (.int .i64 1), .lit (.int .i64 1), .lit (.int .i64 0), .lit (.int .i64 0)], .agg [.lit (.int .i64 1), .lit (.int .i64 1), .lit (.int .i64 0), .lit (.int .i64 1), .lit (.int .i64 1), .lit (.int .i64 1), .lit (.int .i64 0)], .agg [.lit (.int .i64 1), .lit (.int .i64 1), .lit (.int .i64 1), .lit (.int .i64 1), .lit (.int .i64 1), .lit (.int .i64 1), .lit (.int .i64 0)], .agg [.lit (.int .i64 1), .lit (.int .i64 1), .lit (.int .i64 1), .lit (.int .i64 1), .lit (.int .i64 1), .lit (.int .i64 1), .lit (.int .i64 1)]]

/-- 'laws.FnChordOf': WHATEVER THE INPUT: true; the input reads as it did. -/
def fnChordOfSpec : ChangeSpec := { name := "fnChordOf", vars := ["loop.example/musicengine/impl.kindClasses", "loop.example/musicengine/impl.stepHalves"], fn := fun _ => fun
  | [d, g1, g2] => { results := [.lit (.bool true)], args := [d], vars := [g1, g2] }
  | _ => none }
def fnChordOfRow : OpenClaim := { program := "ytjfmbklgkmkgjaadoor", sum := "2073d0f272e65d1eba6236af792653ad62adff5856b0b5d4d0cc6c2edb11b7d1", func := "loop.example/musicengine/laws.FnChordOf", spec := "fnChordOf", named := ["loop.example/musicengine/impl.kindClasses", "math/bits.deBruijn32tab", "loop.example/musicengine/impl.stepHalves"], apart := false, laid := [("math/bits.deBruijn32tab", laid_math_bits_deBruijn32tab), ("loop.example/musicengine/impl.kindClasses", laid_loop_example_musicengine_impl_kindClasses), ("loop.example/musicengine/impl.stepHalves", laid_loop_example_musicengine_impl_stepHalves)] }
def FnChordOfSaid : Prop := fnChordOfRow.holds Tryd.pinned (OpenSpec.ofChange fnChordOfSpec)

/-- ITS FALSE NEIGHBOUR: 'it returns false'. Refute it at one input. -/
def fnChordOfWrong : ChangeSpec := { name := "fnChordOf", vars := ["loop.example/musicengine/impl.kindClasses", "loop.example/musicengine/impl.stepHalves"], fn := fun _ => fun
  | [d, g1, g2] => { results := [.lit (.bool false)], args := [d], vars := [g1, g2] }
  | _ => none }
def FnChordOfWrongFalsely : Prop := fnChordOfRow.holds Tryd.pinned (OpenSpec.ofChange fnChordOfWrong)

/-- 'laws.FnChordOn': WHATEVER THE INPUT: true; the input reads as it did. -/
def fnChordOnSpec : ChangeSpec := { name := "fnChordOn", vars := ["loop.example/musicengine/impl.keyAlters", "loop.example/musicengine/impl.stepHalves", "loop.example/musicengine/impl.kindClasses"], fn := fun _ => fun
  | [d, g1, g2, g3] => { results := [.lit (.bool true)], args := [d], vars := [g1, g2, g3] }
  | _ => none }
def fnChordOnRow : OpenClaim := { program := "ytjfmbklgkmkgjaadoor", sum := "2073d0f272e65d1eba6236af792653ad62adff5856b0b5d4d0cc6c2edb11b7d1", func := "loop.example/musicengine/laws.FnChordOn", spec := "fnChordOn", named := ["loop.example/musicengine/impl.keyAlters", "loop.example/musicengine/impl.stepHalves", "loop.example/musicengine/impl.kindClasses", "math/bits.deBruijn32tab"], apart := false, laid := [("math/bits.deBruijn32tab", laid_math_bits_deBruijn32tab), ("loop.example/musicengine/impl.kindClasses", laid_loop_example_musicengine_impl_kindClasses), ("loop.example/musicengine/impl.stepHalves", laid_loop_example_musicengine_impl_stepHalves), ("loop.example/musicengine/impl.keyAlters", laid_loop_example_musicengine_impl_keyAlters)] }
def FnChordOnSaid : Prop := fnChordOnRow.holds Tryd.pinned (OpenSpec.ofChange fnChordOnSpec)

/-- ITS FALSE NEIGHBOUR: 'it returns false'. Refute it at one input. -/
def fnChordOnWrong : ChangeSpec := { name := "fnChordOn", vars := ["loop.example/musicengine/impl.keyAlters", "loop.example/musicengine/impl.stepHalves", "loop.example/musicengine/impl.kindClasses"], fn := fun _ => fun
  | [d, g1, g2, g3] => { results := [.lit (.bool false)], args := [d], vars := [g1, g2, g3] }
  | _ => none }
def FnChordOnWrongFalsely : Prop := fnChordOnRow.holds Tryd.pinned (OpenSpec.ofChange fnChordOnWrong)

/-- 'laws.FnDegreeOfChord': WHATEVER THE INPUT: true; the input reads as it did. -/
def fnDegreeOfChordSpec : ChangeSpec := { name := "fnDegreeOfChord", vars := ["loop.example/musicengine/impl.keyAlters", "loop.example/musicengine/impl.stepHalves"], fn := fun _ => fun
  | [d, g1, g2] => { results := [.lit (.bool true)], args := [d], vars := [g1, g2] }
  | _ => none }
def fnDegreeOfChordRow : OpenClaim := { program := "ytjfmbklgkmkgjaadoor", sum := "2073d0f272e65d1eba6236af792653ad62adff5856b0b5d4d0cc6c2edb11b7d1", func := "loop.example/musicengine/laws.FnDegreeOfChord", spec := "fnDegreeOfChord", named := ["loop.example/musicengine/impl.keyAlters", "loop.example/musicengine/impl.stepHalves", "math/bits.deBruijn32tab"], apart := false, laid := [("math/bits.deBruijn32tab", laid_math_bits_deBruijn32tab), ("loop.example/musicengine/impl.stepHalves", laid_loop_example_musicengine_impl_stepHalves), ("loop.example/musicengine/impl.keyAlters", laid_loop_example_musicengine_impl_keyAlters)] }
def FnDegreeOfChordSaid : Prop := fnDegreeOfChordRow.holds Tryd.pinned (OpenSpec.ofChange fnDegreeOfChordSpec)

/-- ITS FALSE NEIGHBOUR: 'it returns false'. Refute it at one input. -/
def fnDegreeOfChordWrong : ChangeSpec := { name := "fnDegreeOfChord", vars := ["loop.example/musicengine/impl.keyAlters", "loop.example/musicengine/impl.stepHalves"], fn := fun _ => fun
  | [d, g1, g2] => { results := [.lit (.bool false)], args := [d], vars := [g1, g2] }
  | _ => none }
def FnDegreeOfChordWrongFalsely : Prop := fnDegreeOfChordRow.holds Tryd.pinned (OpenSpec.ofChange fnDegreeOfChordWrong)

/-- 'laws.FnProgressionFault': WHATEVER THE INPUT: true; the input reads as it did. -/
def fnProgressionFaultSpec : ChangeSpec := { name := "fnProgressionFault", vars := ["loop.example/musicengine/impl.stepHalves"], fn := fun _ => fun
  | [d, g1] => { results := [.lit (.bool true)], args := [d], vars := [g1] }
  | _ => none }
def fnProgressionFaultRow : OpenClaim := { program := "ytjfmbklgkmkgjaadoor", sum := "2073d0f272e65d1eba6236af792653ad62adff5856b0b5d4d0cc6c2edb11b7d1", func := "loop.example/musicengine/laws.FnProgressionFault", spec := "fnProgressionFault", named := ["loop.example/musicengine/impl.stepHalves"], apart := false, laid := [("loop.example/musicengine/impl.stepHalves", laid_loop_example_musicengine_impl_stepHalves)] }
def FnProgressionFaultSaid : Prop := fnProgressionFaultRow.holds Tryd.pinned (OpenSpec.ofChange fnProgressionFaultSpec)

/-- ITS FALSE NEIGHBOUR: 'it returns false'. Refute it at one input. -/
def fnProgressionFaultWrong : ChangeSpec := { name := "fnProgressionFault", vars := ["loop.example/musicengine/impl.stepHalves"], fn := fun _ => fun
  | [d, g1] => { results := [.lit (.bool false)], args := [d], vars := [g1] }
  | _ => none }
def FnProgressionFaultWrongFalsely : Prop := fnProgressionFaultRow.holds Tryd.pinned (OpenSpec.ofChange fnProgressionFaultWrong)

/-- 'laws.FnCadenceOf': WHATEVER THE INPUT: true; the input reads as it did. -/
def fnCadenceOfSpec : ChangeSpec := { name := "fnCadenceOf", vars := ["loop.example/musicengine/impl.stepHalves"], fn := fun _ => fun
  | [d, g1] => { results := [.lit (.bool true)], args := [d], vars := [g1] }
  | _ => none }
def fnCadenceOfRow : OpenClaim := { program := "ytjfmbklgkmkgjaadoor", sum := "2073d0f272e65d1eba6236af792653ad62adff5856b0b5d4d0cc6c2edb11b7d1", func := "loop.example/musicengine/laws.FnCadenceOf", spec := "fnCadenceOf", named := ["loop.example/musicengine/impl.stepHalves"], apart := false, laid := [("loop.example/musicengine/impl.stepHalves", laid_loop_example_musicengine_impl_stepHalves)] }
def FnCadenceOfSaid : Prop := fnCadenceOfRow.holds Tryd.pinned (OpenSpec.ofChange fnCadenceOfSpec)

/-- ITS FALSE NEIGHBOUR: 'it returns false'. Refute it at one input. -/
def fnCadenceOfWrong : ChangeSpec := { name := "fnCadenceOf", vars := ["loop.example/musicengine/impl.stepHalves"], fn := fun _ => fun
  | [d, g1] => { results := [.lit (.bool false)], args := [d], vars := [g1] }
  | _ => none }
def FnCadenceOfWrongFalsely : Prop := fnCadenceOfRow.holds Tryd.pinned (OpenSpec.ofChange fnCadenceOfWrong)

/-- 'laws.FnChordTurn': WHATEVER THE INPUT: true; the input reads as it did. -/
def fnChordTurnSpec : ChangeSpec := { name := "fnChordTurn", vars := ["loop.example/musicengine/impl.kindClasses", "loop.example/musicengine/impl.stepHalves"], fn := fun _ => fun
  | [d, g1, g2] => { results := [.lit (.bool true)], args := [d], vars := [g1, g2] }
  | _ => none }
def fnChordTurnRow : OpenClaim := { program := "ytjfmbklgkmkgjaadoor", sum := "2073d0f272e65d1eba6236af792653ad62adff5856b0b5d4d0cc6c2edb11b7d1", func := "loop.example/musicengine/laws.FnChordTurn", spec := "fnChordTurn", named := ["loop.example/musicengine/impl.kindClasses", "math/bits.deBruijn32tab", "loop.example/musicengine/impl.stepHalves"], apart := false, laid := [("math/bits.deBruijn32tab", laid_math_bits_deBruijn32tab), ("loop.example/musicengine/impl.kindClasses", laid_loop_example_musicengine_impl_kindClasses), ("loop.example/musicengine/impl.stepHalves", laid_loop_example_musicengine_impl_stepHalves)] }
def FnChordTurnSaid : Prop := fnChordTurnRow.holds Tryd.pinned (OpenSpec.ofChange fnChordTurnSpec)

/-- ITS FALSE NEIGHBOUR: 'it returns false'. Refute it at one input. -/
def fnChordTurnWrong : ChangeSpec := { name := "fnChordTurn", vars := ["loop.example/musicengine/impl.kindClasses", "loop.example/musicengine/impl.stepHalves"], fn := fun _ => fun
  | [d, g1, g2] => { results := [.lit (.bool false)], args := [d], vars := [g1, g2] }
  | _ => none }
def FnChordTurnWrongFalsely : Prop := fnChordTurnRow.holds Tryd.pinned (OpenSpec.ofChange fnChordTurnWrong)

/-- 'laws.FnChordMoved': WHATEVER THE INPUT: true; the input reads as it did. -/
def fnChordMovedSpec : ChangeSpec := { name := "fnChordMoved", vars := ["loop.example/musicengine/impl.kindClasses", "loop.example/musicengine/impl.stepHalves"], fn := fun _ => fun
  | [d1, d2, g1, g2] => { results := [.lit (.bool true)], args := [d1, d2], vars := [g1, g2] }
  | _ => none }
def fnChordMovedRow : OpenClaim := { program := "ytjfmbklgkmkgjaadoor", sum := "2073d0f272e65d1eba6236af792653ad62adff5856b0b5d4d0cc6c2edb11b7d1", func := "loop.example/musicengine/laws.FnChordMoved", spec := "fnChordMoved", named := ["loop.example/musicengine/impl.kindClasses", "math/bits.deBruijn32tab", "loop.example/musicengine/impl.stepHalves"], apart := false, laid := [("math/bits.deBruijn32tab", laid_math_bits_deBruijn32tab), ("loop.example/musicengine/impl.kindClasses", laid_loop_example_musicengine_impl_kindClasses), ("loop.example/musicengine/impl.stepHalves", laid_loop_example_musicengine_impl_stepHalves)] }
def FnChordMovedSaid : Prop := fnChordMovedRow.holds Tryd.pinned (OpenSpec.ofChange fnChordMovedSpec)

/-- ITS FALSE NEIGHBOUR: 'it returns false'. Refute it at one input. -/
def fnChordMovedWrong : ChangeSpec := { name := "fnChordMoved", vars := ["loop.example/musicengine/impl.kindClasses", "loop.example/musicengine/impl.stepHalves"], fn := fun _ => fun
  | [d1, d2, g1, g2] => { results := [.lit (.bool false)], args := [d1, d2], vars := [g1, g2] }
  | _ => none }
def FnChordMovedWrongFalsely : Prop := fnChordMovedRow.holds Tryd.pinned (OpenSpec.ofChange fnChordMovedWrong)

/-- 'laws.FnExactChordOf': WHATEVER THE INPUT: true; the input reads as it did. -/
def fnExactChordOfSpec : ChangeSpec := { name := "fnExactChordOf", vars := ["loop.example/musicengine/impl.kindClasses", "loop.example/musicengine/impl.stepHalves"], fn := fun _ => fun
  | [d1, d2, g1, g2] => { results := [.lit (.bool true)], args := [d1, d2], vars := [g1, g2] }
  | _ => none }
def fnExactChordOfRow : OpenClaim := { program := "ytjfmbklgkmkgjaadoor", sum := "2073d0f272e65d1eba6236af792653ad62adff5856b0b5d4d0cc6c2edb11b7d1", func := "loop.example/musicengine/laws.FnExactChordOf", spec := "fnExactChordOf", named := ["loop.example/musicengine/impl.kindClasses", "math/bits.deBruijn32tab", "loop.example/musicengine/impl.stepHalves"], apart := false, laid := [("math/bits.deBruijn32tab", laid_math_bits_deBruijn32tab), ("loop.example/musicengine/impl.kindClasses", laid_loop_example_musicengine_impl_kindClasses), ("loop.example/musicengine/impl.stepHalves", laid_loop_example_musicengine_impl_stepHalves)] }
def FnExactChordOfSaid : Prop := fnExactChordOfRow.holds Tryd.pinned (OpenSpec.ofChange fnExactChordOfSpec)

/-- ITS FALSE NEIGHBOUR: 'it returns false'. Refute it at one input. -/
def fnExactChordOfWrong : ChangeSpec := { name := "fnExactChordOf", vars := ["loop.example/musicengine/impl.kindClasses", "loop.example/musicengine/impl.stepHalves"], fn := fun _ => fun
  | [d1, d2, g1, g2] => { results := [.lit (.bool false)], args := [d1, d2], vars := [g1, g2] }
  | _ => none }
def FnExactChordOfWrongFalsely : Prop := fnExactChordOfRow.holds Tryd.pinned (OpenSpec.ofChange fnExactChordOfWrong)

/-- 'laws.FnExactChordOn': WHATEVER THE INPUT: true; the input reads as it did. -/
def fnExactChordOnSpec : ChangeSpec := { name := "fnExactChordOn", vars := ["loop.example/musicengine/impl.keyAlters"], fn := fun _ => fun
  | [d1, d2, d3, d4, g1] => { results := [.lit (.bool true)], args := [d1, d2, d3, d4], vars := [g1] }
  | _ => none }
def fnExactChordOnRow : OpenClaim := { program := "ytjfmbklgkmkgjaadoor", sum := "2073d0f272e65d1eba6236af792653ad62adff5856b0b5d4d0cc6c2edb11b7d1", func := "loop.example/musicengine/laws.FnExactChordOn", spec := "fnExactChordOn", named := ["loop.example/musicengine/impl.keyAlters"], apart := false, laid := [("loop.example/musicengine/impl.keyAlters", laid_loop_example_musicengine_impl_keyAlters)] }
def FnExactChordOnSaid : Prop := fnExactChordOnRow.holds Tryd.pinned (OpenSpec.ofChange fnExactChordOnSpec)

/-- ITS FALSE NEIGHBOUR: 'it returns false'. Refute it at one input. -/
def fnExactChordOnWrong : ChangeSpec := { name := "fnExactChordOn", vars := ["loop.example/musicengine/impl.keyAlters"], fn := fun _ => fun
  | [d1, d2, d3, d4, g1] => { results := [.lit (.bool false)], args := [d1, d2, d3, d4], vars := [g1] }
  | _ => none }
def FnExactChordOnWrongFalsely : Prop := fnExactChordOnRow.holds Tryd.pinned (OpenSpec.ofChange fnExactChordOnWrong)

/-- 'laws.FnExactDegreeOfChord': WHATEVER THE INPUT: true; the input reads as it did. -/
def fnExactDegreeOfChordSpec : ChangeSpec := { name := "fnExactDegreeOfChord", vars := ["loop.example/musicengine/impl.keyAlters"], fn := fun _ => fun
  | [d1, d2, d3, g1] => { results := [.lit (.bool true)], args := [d1, d2, d3], vars := [g1] }
  | _ => none }
def fnExactDegreeOfChordRow : OpenClaim := { program := "ytjfmbklgkmkgjaadoor", sum := "2073d0f272e65d1eba6236af792653ad62adff5856b0b5d4d0cc6c2edb11b7d1", func := "loop.example/musicengine/laws.FnExactDegreeOfChord", spec := "fnExactDegreeOfChord", named := ["loop.example/musicengine/impl.keyAlters"], apart := false, laid := [("loop.example/musicengine/impl.keyAlters", laid_loop_example_musicengine_impl_keyAlters)] }
def FnExactDegreeOfChordSaid : Prop := fnExactDegreeOfChordRow.holds Tryd.pinned (OpenSpec.ofChange fnExactDegreeOfChordSpec)

/-- ITS FALSE NEIGHBOUR: 'it returns false'. Refute it at one input. -/
def fnExactDegreeOfChordWrong : ChangeSpec := { name := "fnExactDegreeOfChord", vars := ["loop.example/musicengine/impl.keyAlters"], fn := fun _ => fun
  | [d1, d2, d3, g1] => { results := [.lit (.bool false)], args := [d1, d2, d3], vars := [g1] }
  | _ => none }
def FnExactDegreeOfChordWrongFalsely : Prop := fnExactDegreeOfChordRow.holds Tryd.pinned (OpenSpec.ofChange fnExactDegreeOfChordWrong)

/- THE SECOND FORM. 'bulk': how many values and letters a reading holds, each counted each time it is reached (what is shared counts as often as it is met; a slice's spare places count too). A statement '..UptoSaid' is the law's where the arguments, and the package variables that the reading takes, are together of bulk at most 1048576: NARROWER than '..Said'. Prove '..Said' where nothing that the law and all that it calls make is longer than what came in: it says more and counts as full. Else prove '..UptoSaid'. A law counts once. -/
mutual
def uptoBulk {H : Type} : DataW H → Nat
  | .lit (.string bytes) => bytes.length + 1
  | .lit _ => 1
  | .nil => 1
  | .ptr d => uptoBulk d + 1
  | .slice elems spare => uptoBulkAll elems + uptoBulkAll spare + 1
  | .agg parts => uptoBulkAll parts + 1
  | .iface _ d => uptoBulk d + 1
  | .map entries => uptoBulkEntries entries + 1
  | .held _ => 1
def uptoBulkAll {H : Type} : List (DataW H) → Nat
  | [] => 0
  | d :: r => uptoBulk d + uptoBulkAll r
def uptoBulkEntries {H : Type} : List (Lit × DataW H) → Nat
  | [] => 0
  | x :: r => uptoBulkEntry x + uptoBulkEntries r
def uptoBulkEntry {H : Type} : Lit × DataW H → Nat
  | (.string bytes, d) => bytes.length + uptoBulk d + 1
  | (_, d) => uptoBulk d + 1
 end
def uptoSmall : (H : Type) → List (DataW H) → Bool := fun _ ds => decide (uptoBulkAll ds ≤ 1048576)
def OpenSpec.upto (s : _root_.Go.ChangeSpec) : _root_.Go.OpenSpec := { _root_.Go.OpenSpec.ofChange s with cond := some uptoSmall }

/-- 'laws.FnChordOf', WHERE WHAT IT READS IS OF BULK AT MOST 1048576: true; the input reads as it did. -/
def fnChordOfUptoRow : OpenClaim := { program := "ytjfmbklgkmkgjaadoor", sum := "2073d0f272e65d1eba6236af792653ad62adff5856b0b5d4d0cc6c2edb11b7d1", func := "loop.example/musicengine/laws.FnChordOf", spec := "fnChordOf", named := ["loop.example/musicengine/impl.kindClasses", "math/bits.deBruijn32tab", "loop.example/musicengine/impl.stepHalves"], apart := false, laid := [("math/bits.deBruijn32tab", laid_math_bits_deBruijn32tab), ("loop.example/musicengine/impl.kindClasses", laid_loop_example_musicengine_impl_kindClasses), ("loop.example/musicengine/impl.stepHalves", laid_loop_example_musicengine_impl_stepHalves)], narrowed := true }
def FnChordOfUptoSaid : Prop := fnChordOfUptoRow.holds Tryd.pinned (OpenSpec.upto fnChordOfSpec)

/-- 'laws.FnChordOn', WHERE WHAT IT READS IS OF BULK AT MOST 1048576: true; the input reads as it did. -/
def fnChordOnUptoRow : OpenClaim := { program := "ytjfmbklgkmkgjaadoor", sum := "2073d0f272e65d1eba6236af792653ad62adff5856b0b5d4d0cc6c2edb11b7d1", func := "loop.example/musicengine/laws.FnChordOn", spec := "fnChordOn", named := ["loop.example/musicengine/impl.keyAlters", "loop.example/musicengine/impl.stepHalves", "loop.example/musicengine/impl.kindClasses", "math/bits.deBruijn32tab"], apart := false, laid := [("math/bits.deBruijn32tab", laid_math_bits_deBruijn32tab), ("loop.example/musicengine/impl.kindClasses", laid_loop_example_musicengine_impl_kindClasses), ("loop.example/musicengine/impl.stepHalves", laid_loop_example_musicengine_impl_stepHalves), ("loop.example/musicengine/impl.keyAlters", laid_loop_example_musicengine_impl_keyAlters)], narrowed := true }
def FnChordOnUptoSaid : Prop := fnChordOnUptoRow.holds Tryd.pinned (OpenSpec.upto fnChordOnSpec)

/-- 'laws.FnDegreeOfChord', WHERE WHAT IT READS IS OF BULK AT MOST 1048576: true; the input reads as it did. -/
def fnDegreeOfChordUptoRow : OpenClaim := { program := "ytjfmbklgkmkgjaadoor", sum := "2073d0f272e65d1eba6236af792653ad62adff5856b0b5d4d0cc6c2edb11b7d1", func := "loop.example/musicengine/laws.FnDegreeOfChord", spec := "fnDegreeOfChord", named := ["loop.example/musicengine/impl.keyAlters", "loop.example/musicengine/impl.stepHalves", "math/bits.deBruijn32tab"], apart := false, laid := [("math/bits.deBruijn32tab", laid_math_bits_deBruijn32tab), ("loop.example/musicengine/impl.stepHalves", laid_loop_example_musicengine_impl_stepHalves), ("loop.example/musicengine/impl.keyAlters", laid_loop_example_musicengine_impl_keyAlters)], narrowed := true }
def FnDegreeOfChordUptoSaid : Prop := fnDegreeOfChordUptoRow.holds Tryd.pinned (OpenSpec.upto fnDegreeOfChordSpec)

/-- 'laws.FnProgressionFault', WHERE WHAT IT READS IS OF BULK AT MOST 1048576: true; the input reads as it did. -/
def fnProgressionFaultUptoRow : OpenClaim := { program := "ytjfmbklgkmkgjaadoor", sum := "2073d0f272e65d1eba6236af792653ad62adff5856b0b5d4d0cc6c2edb11b7d1", func := "loop.example/musicengine/laws.FnProgressionFault", spec := "fnProgressionFault", named := ["loop.example/musicengine/impl.stepHalves"], apart := false, laid := [("loop.example/musicengine/impl.stepHalves", laid_loop_example_musicengine_impl_stepHalves)], narrowed := true }
def FnProgressionFaultUptoSaid : Prop := fnProgressionFaultUptoRow.holds Tryd.pinned (OpenSpec.upto fnProgressionFaultSpec)

/-- 'laws.FnCadenceOf', WHERE WHAT IT READS IS OF BULK AT MOST 1048576: true; the input reads as it did. -/
def fnCadenceOfUptoRow : OpenClaim := { program := "ytjfmbklgkmkgjaadoor", sum := "2073d0f272e65d1eba6236af792653ad62adff5856b0b5d4d0cc6c2edb11b7d1", func := "loop.example/musicengine/laws.FnCadenceOf", spec := "fnCadenceOf", named := ["loop.example/musicengine/impl.stepHalves"], apart := false, laid := [("loop.example/musicengine/impl.stepHalves", laid_loop_example_musicengine_impl_stepHalves)], narrowed := true }
def FnCadenceOfUptoSaid : Prop := fnCadenceOfUptoRow.holds Tryd.pinned (OpenSpec.upto fnCadenceOfSpec)

/-- 'laws.FnChordTurn', WHERE WHAT IT READS IS OF BULK AT MOST 1048576: true; the input reads as it did. -/
def fnChordTurnUptoRow : OpenClaim := { program := "ytjfmbklgkmkgjaadoor", sum := "2073d0f272e65d1eba6236af792653ad62adff5856b0b5d4d0cc6c2edb11b7d1", func := "loop.example/musicengine/laws.FnChordTurn", spec := "fnChordTurn", named := ["loop.example/musicengine/impl.kindClasses", "math/bits.deBruijn32tab", "loop.example/musicengine/impl.stepHalves"], apart := false, laid := [("math/bits.deBruijn32tab", laid_math_bits_deBruijn32tab), ("loop.example/musicengine/impl.kindClasses", laid_loop_example_musicengine_impl_kindClasses), ("loop.example/musicengine/impl.stepHalves", laid_loop_example_musicengine_impl_stepHalves)], narrowed := true }
def FnChordTurnUptoSaid : Prop := fnChordTurnUptoRow.holds Tryd.pinned (OpenSpec.upto fnChordTurnSpec)

/-- 'laws.FnChordMoved', WHERE WHAT IT READS IS OF BULK AT MOST 1048576: true; the input reads as it did. -/
def fnChordMovedUptoRow : OpenClaim := { program := "ytjfmbklgkmkgjaadoor", sum := "2073d0f272e65d1eba6236af792653ad62adff5856b0b5d4d0cc6c2edb11b7d1", func := "loop.example/musicengine/laws.FnChordMoved", spec := "fnChordMoved", named := ["loop.example/musicengine/impl.kindClasses", "math/bits.deBruijn32tab", "loop.example/musicengine/impl.stepHalves"], apart := false, laid := [("math/bits.deBruijn32tab", laid_math_bits_deBruijn32tab), ("loop.example/musicengine/impl.kindClasses", laid_loop_example_musicengine_impl_kindClasses), ("loop.example/musicengine/impl.stepHalves", laid_loop_example_musicengine_impl_stepHalves)], narrowed := true }
def FnChordMovedUptoSaid : Prop := fnChordMovedUptoRow.holds Tryd.pinned (OpenSpec.upto fnChordMovedSpec)

/-- 'laws.FnExactChordOf', WHERE WHAT IT READS IS OF BULK AT MOST 1048576: true; the input reads as it did. -/
def fnExactChordOfUptoRow : OpenClaim := { program := "ytjfmbklgkmkgjaadoor", sum := "2073d0f272e65d1eba6236af792653ad62adff5856b0b5d4d0cc6c2edb11b7d1", func := "loop.example/musicengine/laws.FnExactChordOf", spec := "fnExactChordOf", named := ["loop.example/musicengine/impl.kindClasses", "math/bits.deBruijn32tab", "loop.example/musicengine/impl.stepHalves"], apart := false, laid := [("math/bits.deBruijn32tab", laid_math_bits_deBruijn32tab), ("loop.example/musicengine/impl.kindClasses", laid_loop_example_musicengine_impl_kindClasses), ("loop.example/musicengine/impl.stepHalves", laid_loop_example_musicengine_impl_stepHalves)], narrowed := true }
def FnExactChordOfUptoSaid : Prop := fnExactChordOfUptoRow.holds Tryd.pinned (OpenSpec.upto fnExactChordOfSpec)

/-- 'laws.FnExactChordOn', WHERE WHAT IT READS IS OF BULK AT MOST 1048576: true; the input reads as it did. -/
def fnExactChordOnUptoRow : OpenClaim := { program := "ytjfmbklgkmkgjaadoor", sum := "2073d0f272e65d1eba6236af792653ad62adff5856b0b5d4d0cc6c2edb11b7d1", func := "loop.example/musicengine/laws.FnExactChordOn", spec := "fnExactChordOn", named := ["loop.example/musicengine/impl.keyAlters"], apart := false, laid := [("loop.example/musicengine/impl.keyAlters", laid_loop_example_musicengine_impl_keyAlters)], narrowed := true }
def FnExactChordOnUptoSaid : Prop := fnExactChordOnUptoRow.holds Tryd.pinned (OpenSpec.upto fnExactChordOnSpec)

/-- 'laws.FnExactDegreeOfChord', WHERE WHAT IT READS IS OF BULK AT MOST 1048576: true; the input reads as it did. -/
def fnExactDegreeOfChordUptoRow : OpenClaim := { program := "ytjfmbklgkmkgjaadoor", sum := "2073d0f272e65d1eba6236af792653ad62adff5856b0b5d4d0cc6c2edb11b7d1", func := "loop.example/musicengine/laws.FnExactDegreeOfChord", spec := "fnExactDegreeOfChord", named := ["loop.example/musicengine/impl.keyAlters"], apart := false, laid := [("loop.example/musicengine/impl.keyAlters", laid_loop_example_musicengine_impl_keyAlters)], narrowed := true }
def FnExactDegreeOfChordUptoSaid : Prop := fnExactDegreeOfChordUptoRow.holds Tryd.pinned (OpenSpec.upto fnExactDegreeOfChordSpec)

end Rows
end Go.Proofs.YtjfmbklgkmkgjaaDoor
