/-
  NARROWER THAN 'FOR EVERY INPUT', by the rows' own cells (each row's printed sentence says how): FnFigureTones: laid · FnRealizeBass: laid · FnRealizeFault: laid · FnBassFirst: laid · FnExactFigureTones: laid · FnExactRealizeBass: laid · FnExactRealizeFault: laid.
  DERIVED. THE GIVEN ROWS OF THIS SEAT. 7 by the template 'for every input the law returns true; each argument reads behind the call as it read before'; 0 by the template 'total and deterministic' (their statements: YtfiodejbeeblgaaDoorTotals.lean).
  GIVEN WITH THE SEED: the statements are not yours to turn. If you find one false, say at which input.
  Laid BY PROGRAM, IN A SANDBOX (cutbox-rows.mjs): the forced cells as the released guide's own fill.sh prints them over the translation 87b3a6963408134b… (all of the seat's roots in one cut). By AI agents, Wed Nov 11 2026. No macro, syntax, notation, axiom, sorry.
-/
import Derived.Test.YtfiodejbeeblgaaDoorChecked
import GoSem.Claim
import GoSem.ClaimJoined
import GoSem.ClaimMapViews
import Derived.JoinedTies
import Derived.KernelRfl
namespace Go.Proofs.YtfiodejbeeblgaaDoor
/- THE CELL 'sum', in the pinned program and in every row, IS THE sha256 OF THE DUMP (.gsa) THAT YtfiodejbeeblgaaDoorProg.lean LOADS. Nothing in Lean hashes anything: it is a label: what it is worth is what the hold of that sum in a sandbox is worth. -/
noncomputable def Tryd.pinned : Pinned := { name := "ytfiodejbeeblgaadoor", sum := "87b3a6963408134b2c385e2df1d015555956547c14c9e1a054a5dc68e0c759b6", checked := Tryd.checked }
namespace Rows
def none {H : Type} : Left H := { results := [], args := [] }

/- WHAT THE LISTED PACKAGE-LEVEL VARIABLES READ AS WHEN THE CALL BEGINS. Each datum BY PROGRAM (the guide's laid-datum.mjs) off the statement by which the dump's own 'gosem.cut.vars' lays the variable. In a bare row this is a premise. The card (YtfiodejbeeblgaaDoorCards.lean) ties it to the program's text. -/
def laid_loop_example_musicengine_impl_stepHalves {H : Type} : DataW H := .agg [.lit (.int .i64 0), .lit (.int .i64 2), .lit (.int .i64 4), .lit (.int .i64 5), .lit (.int .i64 7), .lit (.int .i64 9), .lit (.int .i64 11)]
def laid_loop_example_musicengine_impl_keyAlters {H : Type} : DataW H := .agg [.agg [.lit (.int .i64 (-1)), .lit (.int .i64 (-1)), .lit (.int .i64 (-1)), .lit (.int .i64 (-1)), .lit (.int .i64 (-1)), .lit (.int .i64 (-1)), .lit (.int .i64 (-1))], .agg [.lit (.int .i64 (-1)), .lit (.int .i64 (-1)), .lit (.int .i64 (-1)), .lit (.int .i64 0), .lit (.int .i64 (-1)), .lit (.int .i64 (-1)), .lit (.int .i64 (-1))], .agg [.lit (.int .i64 0), .lit (.int .i64 (-1)), .lit (.int .i64 (-1)), .lit (.int .i64 0), .lit (.int .i64 (-1)), .lit (.int .i64 (-1)), .lit (.int .i64 (-1))], .agg [.lit (.int .i64 0), .lit (.int .i64 (-1)), .lit (.int .i64 (-1)), .lit (.int .i64 0), .lit (.int .i64 0), .lit (.int .i64 (-1)), .lit (.int .i64 (-1))], .agg [.lit (.int .i64 0), .lit (.int .i64 0), .lit (.int .i64 (-1)), .lit (.int .i64 0), .lit (.int .i64 0), .lit (.int .i64 (-1)), .lit (.int .i64 (-1))], .agg [.lit (.int .i64 0), .lit (.int .i64 0), .lit (.int .i64 (-1)), .lit (.int .i64 0), .lit (.int .i64 0), .lit (.int .i64 0), .lit (.int .i64 (-1))], .agg [.lit (.int .i64 0), .lit (.int .i64 0), .lit (.int .i64 0), .lit (.int .i64 0), .lit (.int .i64 0), .lit (.int .i64 0), .lit (.int .i64 (-1))], .agg [.lit (.int .i64 0), .lit (.int .i64 0), .lit (.int .i64 0), .lit (.int .i64 0), .lit (.int .i64 0), .lit (.int .i64 0), .lit (.int .i64 0)], .agg [.lit (.int .i64 0), .lit (.int .i64 0), .lit (.int .i64 0), .lit (.int .i64 1), .lit (.int .i64 0), .lit (.int .i64 0), .lit (.int .i64 0)], .agg [.lit (.int .i64 1), .lit (.int .i64 0), .lit (.int .i64 0), .lit (.int .i64 1), .lit (.int .i64 0), .lit (.int .i64 0), .lit (.int .i64 0)], .agg [.lit (.int .i64 1), .lit (.int .i64 0), .lit (.int .i64 0), .lit (.int .i64 1), .lit (.int .i64 1), .lit (.int .i64 0), .lit (.int .i64 0)], .agg [.lit (.int .i64 1), .lit (.int .i64 1), .lit (.int .i64 0), .lit (.int .i64 1), .lit (.int .i64 1), .lit (.int .i64 0), .lit (.int .i64 0)], .agg [.lit (.int .i64 1), .lit (.int .i64 1), .lit (.int .i64 0), .lit (.int .i64 1), .lit (.int .i64 1), .lit (.int .i64 1), .lit (.int .i64 0)], .agg [.lit (.int .i64 1), .lit (.int .i64 1), .lit (.int .i64 1), .lit (.int .i64 1), .lit (.int .i64 1), .lit (.int .i64 1), .lit (.int .i64 0)], .agg [.lit (.int .i64 1), .lit (.int .i64 1), .lit (.int .i64 1), .lit (.int .i64 1), .lit (.int .i64 1), .lit (.int .i64 1), .lit (.int .i64 1)]]
def laid_loop_example_musicengine_impl_voiceRanges {H : Type} : DataW H := .agg [.agg [.lit (.int .i64 28), .lit (.int .i64 48)], .agg [.lit (.int .i64 36), .lit (.int .i64 55)], .agg [.lit (.int .i64 43), .lit (.int .i64 62)], .agg [.lit (.int .i64 48), .lit (.int .i64 67)]]

/-- 'laws.FnFigureTones': WHATEVER THE INPUT: true; the input reads as it did. -/
def fnFigureTonesSpec : ChangeSpec := { name := "fnFigureTones", vars := ["loop.example/musicengine/impl.keyAlters", "loop.example/musicengine/impl.stepHalves"], fn := fun _ => fun
  | [d, g1, g2] => { results := [.lit (.bool true)], args := [d], vars := [g1, g2] }
  | _ => none }
def fnFigureTonesRow : OpenClaim := { program := "ytfiodejbeeblgaadoor", sum := "87b3a6963408134b2c385e2df1d015555956547c14c9e1a054a5dc68e0c759b6", func := "loop.example/musicengine/laws.FnFigureTones", spec := "fnFigureTones", named := ["loop.example/musicengine/impl.keyAlters", "loop.example/musicengine/impl.stepHalves"], apart := false, laid := [("loop.example/musicengine/impl.stepHalves", laid_loop_example_musicengine_impl_stepHalves), ("loop.example/musicengine/impl.keyAlters", laid_loop_example_musicengine_impl_keyAlters)] }
def FnFigureTonesSaid : Prop := fnFigureTonesRow.holds Tryd.pinned (OpenSpec.ofChange fnFigureTonesSpec)

/-- ITS FALSE NEIGHBOUR: 'it returns false'. Refute it at one input. -/
def fnFigureTonesWrong : ChangeSpec := { name := "fnFigureTones", vars := ["loop.example/musicengine/impl.keyAlters", "loop.example/musicengine/impl.stepHalves"], fn := fun _ => fun
  | [d, g1, g2] => { results := [.lit (.bool false)], args := [d], vars := [g1, g2] }
  | _ => none }
def FnFigureTonesWrongFalsely : Prop := fnFigureTonesRow.holds Tryd.pinned (OpenSpec.ofChange fnFigureTonesWrong)

/-- 'laws.FnRealizeBass': WHATEVER THE INPUT: true; the input reads as it did. -/
def fnRealizeBassSpec : ChangeSpec := { name := "fnRealizeBass", vars := ["loop.example/musicengine/impl.keyAlters", "loop.example/musicengine/impl.voiceRanges", "loop.example/musicengine/impl.stepHalves"], fn := fun _ => fun
  | [d, g1, g2, g3] => { results := [.lit (.bool true)], args := [d], vars := [g1, g2, g3] }
  | _ => none }
def fnRealizeBassRow : OpenClaim := { program := "ytfiodejbeeblgaadoor", sum := "87b3a6963408134b2c385e2df1d015555956547c14c9e1a054a5dc68e0c759b6", func := "loop.example/musicengine/laws.FnRealizeBass", spec := "fnRealizeBass", unfollowed := true, recurses := true, named := ["loop.example/musicengine/impl.keyAlters", "loop.example/musicengine/impl.voiceRanges", "loop.example/musicengine/impl.stepHalves"], apart := false, laid := [("loop.example/musicengine/impl.voiceRanges", laid_loop_example_musicengine_impl_voiceRanges), ("loop.example/musicengine/impl.stepHalves", laid_loop_example_musicengine_impl_stepHalves), ("loop.example/musicengine/impl.keyAlters", laid_loop_example_musicengine_impl_keyAlters)] }
def FnRealizeBassSaid : Prop := fnRealizeBassRow.holds Tryd.pinned (OpenSpec.ofChange fnRealizeBassSpec)

/-- ITS FALSE NEIGHBOUR: 'it returns false'. Refute it at one input. -/
def fnRealizeBassWrong : ChangeSpec := { name := "fnRealizeBass", vars := ["loop.example/musicengine/impl.keyAlters", "loop.example/musicengine/impl.voiceRanges", "loop.example/musicengine/impl.stepHalves"], fn := fun _ => fun
  | [d, g1, g2, g3] => { results := [.lit (.bool false)], args := [d], vars := [g1, g2, g3] }
  | _ => none }
def FnRealizeBassWrongFalsely : Prop := fnRealizeBassRow.holds Tryd.pinned (OpenSpec.ofChange fnRealizeBassWrong)

/-- 'laws.FnRealizeFault': WHATEVER THE INPUT: true; the input reads as it did. -/
def fnRealizeFaultSpec : ChangeSpec := { name := "fnRealizeFault", vars := ["loop.example/musicengine/impl.stepHalves", "loop.example/musicengine/impl.voiceRanges", "loop.example/musicengine/impl.keyAlters"], fn := fun _ => fun
  | [d, g1, g2, g3] => { results := [.lit (.bool true)], args := [d], vars := [g1, g2, g3] }
  | _ => none }
def fnRealizeFaultRow : OpenClaim := { program := "ytfiodejbeeblgaadoor", sum := "87b3a6963408134b2c385e2df1d015555956547c14c9e1a054a5dc68e0c759b6", func := "loop.example/musicengine/laws.FnRealizeFault", spec := "fnRealizeFault", named := ["loop.example/musicengine/impl.stepHalves", "loop.example/musicengine/impl.voiceRanges", "loop.example/musicengine/impl.keyAlters"], apart := false, laid := [("loop.example/musicengine/impl.voiceRanges", laid_loop_example_musicengine_impl_voiceRanges), ("loop.example/musicengine/impl.stepHalves", laid_loop_example_musicengine_impl_stepHalves), ("loop.example/musicengine/impl.keyAlters", laid_loop_example_musicengine_impl_keyAlters)] }
def FnRealizeFaultSaid : Prop := fnRealizeFaultRow.holds Tryd.pinned (OpenSpec.ofChange fnRealizeFaultSpec)

/-- ITS FALSE NEIGHBOUR: 'it returns false'. Refute it at one input. -/
def fnRealizeFaultWrong : ChangeSpec := { name := "fnRealizeFault", vars := ["loop.example/musicengine/impl.stepHalves", "loop.example/musicengine/impl.voiceRanges", "loop.example/musicengine/impl.keyAlters"], fn := fun _ => fun
  | [d, g1, g2, g3] => { results := [.lit (.bool false)], args := [d], vars := [g1, g2, g3] }
  | _ => none }
def FnRealizeFaultWrongFalsely : Prop := fnRealizeFaultRow.holds Tryd.pinned (OpenSpec.ofChange fnRealizeFaultWrong)

/-- 'laws.FnBassFirst': WHATEVER THE INPUT: true; the input reads as it did. -/
def fnBassFirstSpec : ChangeSpec := { name := "fnBassFirst", vars := ["loop.example/musicengine/impl.keyAlters", "loop.example/musicengine/impl.voiceRanges", "loop.example/musicengine/impl.stepHalves"], fn := fun _ => fun
  | [d, g1, g2, g3] => { results := [.lit (.bool true)], args := [d], vars := [g1, g2, g3] }
  | _ => none }
def fnBassFirstRow : OpenClaim := { program := "ytfiodejbeeblgaadoor", sum := "87b3a6963408134b2c385e2df1d015555956547c14c9e1a054a5dc68e0c759b6", func := "loop.example/musicengine/laws.FnBassFirst", spec := "fnBassFirst", unfollowed := true, recurses := true, named := ["loop.example/musicengine/impl.keyAlters", "loop.example/musicengine/impl.voiceRanges", "loop.example/musicengine/impl.stepHalves"], apart := false, laid := [("loop.example/musicengine/impl.voiceRanges", laid_loop_example_musicengine_impl_voiceRanges), ("loop.example/musicengine/impl.stepHalves", laid_loop_example_musicengine_impl_stepHalves), ("loop.example/musicengine/impl.keyAlters", laid_loop_example_musicengine_impl_keyAlters)] }
def FnBassFirstSaid : Prop := fnBassFirstRow.holds Tryd.pinned (OpenSpec.ofChange fnBassFirstSpec)

/-- ITS FALSE NEIGHBOUR: 'it returns false'. Refute it at one input. -/
def fnBassFirstWrong : ChangeSpec := { name := "fnBassFirst", vars := ["loop.example/musicengine/impl.keyAlters", "loop.example/musicengine/impl.voiceRanges", "loop.example/musicengine/impl.stepHalves"], fn := fun _ => fun
  | [d, g1, g2, g3] => { results := [.lit (.bool false)], args := [d], vars := [g1, g2, g3] }
  | _ => none }
def FnBassFirstWrongFalsely : Prop := fnBassFirstRow.holds Tryd.pinned (OpenSpec.ofChange fnBassFirstWrong)

/-- 'laws.FnExactFigureTones': WHATEVER THE INPUT: true; the input reads as it did. -/
def fnExactFigureTonesSpec : ChangeSpec := { name := "fnExactFigureTones", vars := ["loop.example/musicengine/impl.keyAlters"], fn := fun _ => fun
  | [d1, d2, d3, g1] => { results := [.lit (.bool true)], args := [d1, d2, d3], vars := [g1] }
  | _ => none }
def fnExactFigureTonesRow : OpenClaim := { program := "ytfiodejbeeblgaadoor", sum := "87b3a6963408134b2c385e2df1d015555956547c14c9e1a054a5dc68e0c759b6", func := "loop.example/musicengine/laws.FnExactFigureTones", spec := "fnExactFigureTones", named := ["loop.example/musicengine/impl.keyAlters"], apart := false, laid := [("loop.example/musicengine/impl.keyAlters", laid_loop_example_musicengine_impl_keyAlters)] }
def FnExactFigureTonesSaid : Prop := fnExactFigureTonesRow.holds Tryd.pinned (OpenSpec.ofChange fnExactFigureTonesSpec)

/-- ITS FALSE NEIGHBOUR: 'it returns false'. Refute it at one input. -/
def fnExactFigureTonesWrong : ChangeSpec := { name := "fnExactFigureTones", vars := ["loop.example/musicengine/impl.keyAlters"], fn := fun _ => fun
  | [d1, d2, d3, g1] => { results := [.lit (.bool false)], args := [d1, d2, d3], vars := [g1] }
  | _ => none }
def FnExactFigureTonesWrongFalsely : Prop := fnExactFigureTonesRow.holds Tryd.pinned (OpenSpec.ofChange fnExactFigureTonesWrong)

/-- 'laws.FnExactRealizeBass': WHATEVER THE INPUT: true; the input reads as it did. -/
def fnExactRealizeBassSpec : ChangeSpec := { name := "fnExactRealizeBass", vars := ["loop.example/musicengine/impl.keyAlters", "loop.example/musicengine/impl.voiceRanges", "loop.example/musicengine/impl.stepHalves"], fn := fun _ => fun
  | [d1, d2, d3, g1, g2, g3] => { results := [.lit (.bool true)], args := [d1, d2, d3], vars := [g1, g2, g3] }
  | _ => none }
def fnExactRealizeBassRow : OpenClaim := { program := "ytfiodejbeeblgaadoor", sum := "87b3a6963408134b2c385e2df1d015555956547c14c9e1a054a5dc68e0c759b6", func := "loop.example/musicengine/laws.FnExactRealizeBass", spec := "fnExactRealizeBass", unfollowed := true, recurses := true, named := ["loop.example/musicengine/impl.keyAlters", "loop.example/musicengine/impl.voiceRanges", "loop.example/musicengine/impl.stepHalves"], apart := false, laid := [("loop.example/musicengine/impl.voiceRanges", laid_loop_example_musicengine_impl_voiceRanges), ("loop.example/musicengine/impl.stepHalves", laid_loop_example_musicengine_impl_stepHalves), ("loop.example/musicengine/impl.keyAlters", laid_loop_example_musicengine_impl_keyAlters)] }
def FnExactRealizeBassSaid : Prop := fnExactRealizeBassRow.holds Tryd.pinned (OpenSpec.ofChange fnExactRealizeBassSpec)

/-- ITS FALSE NEIGHBOUR: 'it returns false'. Refute it at one input. -/
def fnExactRealizeBassWrong : ChangeSpec := { name := "fnExactRealizeBass", vars := ["loop.example/musicengine/impl.keyAlters", "loop.example/musicengine/impl.voiceRanges", "loop.example/musicengine/impl.stepHalves"], fn := fun _ => fun
  | [d1, d2, d3, g1, g2, g3] => { results := [.lit (.bool false)], args := [d1, d2, d3], vars := [g1, g2, g3] }
  | _ => none }
def FnExactRealizeBassWrongFalsely : Prop := fnExactRealizeBassRow.holds Tryd.pinned (OpenSpec.ofChange fnExactRealizeBassWrong)

/-- 'laws.FnExactRealizeFault': WHATEVER THE INPUT: true; the input reads as it did. -/
def fnExactRealizeFaultSpec : ChangeSpec := { name := "fnExactRealizeFault", vars := ["loop.example/musicengine/impl.stepHalves", "loop.example/musicengine/impl.voiceRanges", "loop.example/musicengine/impl.keyAlters"], fn := fun _ => fun
  | [d1, d2, d3, d4, g1, g2, g3] => { results := [.lit (.bool true)], args := [d1, d2, d3, d4], vars := [g1, g2, g3] }
  | _ => none }
def fnExactRealizeFaultRow : OpenClaim := { program := "ytfiodejbeeblgaadoor", sum := "87b3a6963408134b2c385e2df1d015555956547c14c9e1a054a5dc68e0c759b6", func := "loop.example/musicengine/laws.FnExactRealizeFault", spec := "fnExactRealizeFault", named := ["loop.example/musicengine/impl.stepHalves", "loop.example/musicengine/impl.voiceRanges", "loop.example/musicengine/impl.keyAlters"], apart := false, laid := [("loop.example/musicengine/impl.voiceRanges", laid_loop_example_musicengine_impl_voiceRanges), ("loop.example/musicengine/impl.stepHalves", laid_loop_example_musicengine_impl_stepHalves), ("loop.example/musicengine/impl.keyAlters", laid_loop_example_musicengine_impl_keyAlters)] }
def FnExactRealizeFaultSaid : Prop := fnExactRealizeFaultRow.holds Tryd.pinned (OpenSpec.ofChange fnExactRealizeFaultSpec)

/-- ITS FALSE NEIGHBOUR: 'it returns false'. Refute it at one input. -/
def fnExactRealizeFaultWrong : ChangeSpec := { name := "fnExactRealizeFault", vars := ["loop.example/musicengine/impl.stepHalves", "loop.example/musicengine/impl.voiceRanges", "loop.example/musicengine/impl.keyAlters"], fn := fun _ => fun
  | [d1, d2, d3, d4, g1, g2, g3] => { results := [.lit (.bool false)], args := [d1, d2, d3, d4], vars := [g1, g2, g3] }
  | _ => none }
def FnExactRealizeFaultWrongFalsely : Prop := fnExactRealizeFaultRow.holds Tryd.pinned (OpenSpec.ofChange fnExactRealizeFaultWrong)

/- THE SECOND FORM. 'bulk': how many values and letters a reading holds, each counted each time it is reached (what is shared counts as often as it is met; a slice's spare places count too). A statement '..UptoSaid' is the law's where the arguments, and the package variables that the reading takes, are together of bulk at most 1048576: NARROWER than '..Said'. Prove '..Said' where nothing that the law and all that it calls make is longer than what came in: it says more and counts as full. Else prove '..UptoSaid'. A law counts once. -/
mutual
def uptoBulk {H : Type} : DataW H → Nat
  | .lit (.string bytes) => bytes.length + 1
  | .lit _ => 1
  | .nil => 1
  | .ptr d => uptoBulk d + 1
  | .slice elems spare => uptoBulkAll elems + uptoBulkAll spare + 1
  | .agg parts => uptoBulkAll parts + 1
  | .iface _ d => uptoBulk d + 1
  | .map entries => uptoBulkEntries entries + 1
  | .held _ => 1
def uptoBulkAll {H : Type} : List (DataW H) → Nat
  | [] => 0
  | d :: r => uptoBulk d + uptoBulkAll r
def uptoBulkEntries {H : Type} : List (Lit × DataW H) → Nat
  | [] => 0
  | x :: r => uptoBulkEntry x + uptoBulkEntries r
def uptoBulkEntry {H : Type} : Lit × DataW H → Nat
  | (.string bytes, d) => bytes.length + uptoBulk d + 1
  | (_, d) => uptoBulk d + 1
 end
def uptoSmall : (H : Type) → List (DataW H) → Bool := fun _ ds => decide (uptoBulkAll ds ≤ 1048576)
def OpenSpec.upto (s : _root_.Go.ChangeSpec) : _root_.Go.OpenSpec := { _root_.Go.OpenSpec.ofChange s with cond := some uptoSmall }

/-- 'laws.FnFigureTones', WHERE WHAT IT READS IS OF BULK AT MOST 1048576: true; the input reads as it did. -/
def fnFigureTonesUptoRow : OpenClaim := { program := "ytfiodejbeeblgaadoor", sum := "87b3a6963408134b2c385e2df1d015555956547c14c9e1a054a5dc68e0c759b6", func := "loop.example/musicengine/laws.FnFigureTones", spec := "fnFigureTones", named := ["loop.example/musicengine/impl.keyAlters", "loop.example/musicengine/impl.stepHalves"], apart := false, laid := [("loop.example/musicengine/impl.stepHalves", laid_loop_example_musicengine_impl_stepHalves), ("loop.example/musicengine/impl.keyAlters", laid_loop_example_musicengine_impl_keyAlters)], narrowed := true }
def FnFigureTonesUptoSaid : Prop := fnFigureTonesUptoRow.holds Tryd.pinned (OpenSpec.upto fnFigureTonesSpec)

/-- 'laws.FnRealizeBass', WHERE WHAT IT READS IS OF BULK AT MOST 1048576: true; the input reads as it did. -/
def fnRealizeBassUptoRow : OpenClaim := { program := "ytfiodejbeeblgaadoor", sum := "87b3a6963408134b2c385e2df1d015555956547c14c9e1a054a5dc68e0c759b6", func := "loop.example/musicengine/laws.FnRealizeBass", spec := "fnRealizeBass", unfollowed := true, recurses := true, named := ["loop.example/musicengine/impl.keyAlters", "loop.example/musicengine/impl.voiceRanges", "loop.example/musicengine/impl.stepHalves"], apart := false, laid := [("loop.example/musicengine/impl.voiceRanges", laid_loop_example_musicengine_impl_voiceRanges), ("loop.example/musicengine/impl.stepHalves", laid_loop_example_musicengine_impl_stepHalves), ("loop.example/musicengine/impl.keyAlters", laid_loop_example_musicengine_impl_keyAlters)], narrowed := true }
def FnRealizeBassUptoSaid : Prop := fnRealizeBassUptoRow.holds Tryd.pinned (OpenSpec.upto fnRealizeBassSpec)

/-- 'laws.FnRealizeFault', WHERE WHAT IT READS IS OF BULK AT MOST 1048576: true; the input reads as it did. -/
def fnRealizeFaultUptoRow : OpenClaim := { program := "ytfiodejbeeblgaadoor", sum := "87b3a6963408134b2c385e2df1d015555956547c14c9e1a054a5dc68e0c759b6", func := "loop.example/musicengine/laws.FnRealizeFault", spec := "fnRealizeFault", named := ["loop.example/musicengine/impl.stepHalves", "loop.example/musicengine/impl.voiceRanges", "loop.example/musicengine/impl.keyAlters"], apart := false, laid := [("loop.example/musicengine/impl.voiceRanges", laid_loop_example_musicengine_impl_voiceRanges), ("loop.example/musicengine/impl.stepHalves", laid_loop_example_musicengine_impl_stepHalves), ("loop.example/musicengine/impl.keyAlters", laid_loop_example_musicengine_impl_keyAlters)], narrowed := true }
def FnRealizeFaultUptoSaid : Prop := fnRealizeFaultUptoRow.holds Tryd.pinned (OpenSpec.upto fnRealizeFaultSpec)

/-- 'laws.FnBassFirst', WHERE WHAT IT READS IS OF BULK AT MOST 1048576: true; the input reads as it did. -/
def fnBassFirstUptoRow : OpenClaim := { program := "ytfiodejbeeblgaadoor", sum := "87b3a6963408134b2c385e2df1d015555956547c14c9e1a054a5dc68e0c759b6", func := "loop.example/musicengine/laws.FnBassFirst", spec := "fnBassFirst", unfollowed := true, recurses := true, named := ["loop.example/musicengine/impl.keyAlters", "loop.example/musicengine/impl.voiceRanges", "loop.example/musicengine/impl.stepHalves"], apart := false, laid := [("loop.example/musicengine/impl.voiceRanges", laid_loop_example_musicengine_impl_voiceRanges), ("loop.example/musicengine/impl.stepHalves", laid_loop_example_musicengine_impl_stepHalves), ("loop.example/musicengine/impl.keyAlters", laid_loop_example_musicengine_impl_keyAlters)], narrowed := true }
def FnBassFirstUptoSaid : Prop := fnBassFirstUptoRow.holds Tryd.pinned (OpenSpec.upto fnBassFirstSpec)

/-- 'laws.FnExactFigureTones', WHERE WHAT IT READS IS OF BULK AT MOST 1048576: true; the input reads as it did. -/
def fnExactFigureTonesUptoRow : OpenClaim := { program := "ytfiodejbeeblgaadoor", sum := "87b3a6963408134b2c385e2df1d015555956547c14c9e1a054a5dc68e0c759b6", func := "loop.example/musicengine/laws.FnExactFigureTones", spec := "fnExactFigureTones", named := ["loop.example/musicengine/impl.keyAlters"], apart := false, laid := [("loop.example/musicengine/impl.keyAlters", laid_loop_example_musicengine_impl_keyAlters)], narrowed := true }
def FnExactFigureTonesUptoSaid : Prop := fnExactFigureTonesUptoRow.holds Tryd.pinned (OpenSpec.upto fnExactFigureTonesSpec)

/-- 'laws.FnExactRealizeBass', WHERE WHAT IT READS IS OF BULK AT MOST 1048576: true; the input reads as it did. -/
def fnExactRealizeBassUptoRow : OpenClaim := { program := "ytfiodejbeeblgaadoor", sum := "87b3a6963408134b2c385e2df1d015555956547c14c9e1a054a5dc68e0c759b6", func := "loop.example/musicengine/laws.FnExactRealizeBass", spec := "fnExactRealizeBass", unfollowed := true, recurses := true, named := ["loop.example/musicengine/impl.keyAlters", "loop.example/musicengine/impl.voiceRanges", "loop.example/musicengine/impl.stepHalves"], apart := false, laid := [("loop.example/musicengine/impl.voiceRanges", laid_loop_example_musicengine_impl_voiceRanges), ("loop.example/musicengine/impl.stepHalves", laid_loop_example_musicengine_impl_stepHalves), ("loop.example/musicengine/impl.keyAlters", laid_loop_example_musicengine_impl_keyAlters)], narrowed := true }
def FnExactRealizeBassUptoSaid : Prop := fnExactRealizeBassUptoRow.holds Tryd.pinned (OpenSpec.upto fnExactRealizeBassSpec)

/-- 'laws.FnExactRealizeFault', WHERE WHAT IT READS IS OF BULK AT MOST 1048576: true; the input reads as it did. -/
def fnExactRealizeFaultUptoRow : OpenClaim := { program := "ytfiodejbeeblgaadoor", sum := "87b3a6963408134b2c385e2df1d015555956547c14c9e1a054a5dc68e0c759b6", func := "loop.example/musicengine/laws.FnExactRealizeFault", spec := "fnExactRealizeFault", named := ["loop.example/musicengine/impl.stepHalves", "loop.example/musicengine/impl.voiceRanges", "loop.example/musicengine/impl.keyAlters"], apart := false, laid := [("loop.example/musicengine/impl.voiceRanges", laid_loop_example_musicengine_impl_voiceRanges), ("loop.example/musicengine/impl.stepHalves", laid_loop_example_musicengine_impl_stepHalves), ("loop.example/musicengine/impl.keyAlters", laid_loop_example_musicengine_impl_keyAlters)], narrowed := true }
def FnExactRealizeFaultUptoSaid : Prop := fnExactRealizeFaultUptoRow.holds Tryd.pinned (OpenSpec.upto fnExactRealizeFaultSpec)

end Rows
end Go.Proofs.YtfiodejbeeblgaaDoor
