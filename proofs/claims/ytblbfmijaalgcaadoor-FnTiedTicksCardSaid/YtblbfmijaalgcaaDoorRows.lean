/-
  NARROWER THAN 'FOR EVERY INPUT', by the rows' own cells (each row's printed sentence says how): FnValueValid: laid · FnTicksOf: laid · FnValueOf: laid · FnTiedTicks: laid · FnTiedFew: laid · FnExactValueValid: laid · FnExactTicksOf: laid · FnExactValueOf: laid · FnExactTiedTicks: laid.
  DERIVED. THE GIVEN ROWS OF THIS SEAT. 9 by the template 'for every input the law returns true; each argument reads behind the call as it read before'; 0 by the template 'total and deterministic' (their statements: YtblbfmijaalgcaaDoorTotals.lean).
  GIVEN WITH THE SEED: the statements are not yours to turn. If you find one false, say at which input.
  Laid BY PROGRAM, IN A SANDBOX (cutbox-rows.mjs): the forced cells as the released guide's own fill.sh prints them over the translation aa29f9ce1af1c5df… (all of the seat's roots in one cut). By AI agents, Wed Nov 11 2026. No macro, syntax, notation, axiom, sorry.
-/
import Derived.Test.YtblbfmijaalgcaaDoorChecked
import GoSem.Claim
import GoSem.ClaimJoined
import GoSem.ClaimMapViews
import Derived.JoinedTies
import Derived.KernelRfl
namespace Go.Proofs.YtblbfmijaalgcaaDoor
/- THE CELL 'sum', in the pinned program and in every row, IS THE sha256 OF THE DUMP (.gsa) THAT YtblbfmijaalgcaaDoorProg.lean LOADS. Nothing in Lean hashes anything: it is a label: what it is worth is what the hold of that sum in a sandbox is worth. -/
noncomputable def Tryd.pinned : Pinned := { name := "ytblbfmijaalgcaadoor", sum := "aa29f9ce1af1c5df36bf0d2648d4cd8963277f5dddad96030679789309895473", checked := Tryd.checked }
namespace Rows
def none {H : Type} : Left H := { results := [], args := [] }

/- WHAT THE LISTED PACKAGE-LEVEL VARIABLES READ AS WHEN THE CALL BEGINS. Each datum BY PROGRAM (the guide's laid-datum.mjs) off the statement by which the dump's own 'gosem.cut.vars' lays the variable. In a bare row this is a premise. The card (YtblbfmijaalgcaaDoorCards.lean) ties it to the program's text. -/
def laid_loop_example_musicengine_impl_stepHalves {H : Type} : DataW H := .agg [.lit (.int .i64 0), .lit (.int .i64 2), .lit (.int .i64 4), .lit (.int .i64 5), .lit (.int .i64 7), .lit (.int .i64 9), .lit (.int .i64 11)]
def laid_loop_example_musicengine_impl_valueBases {H : Type} : DataW H := .agg [.lit (.int .i64 1), .lit (.int .i64 2), .lit (.int .i64 4), .lit (.int .i64 8), .lit (.int .i64 16)]
def laid_loop_example_musicengine_impl_dotQuarters {H : Type} : DataW H := .agg [.lit (.int .i64 4), .lit (.int .i64 6), .lit (.int .i64 7)]

/-- 'laws.FnValueValid': WHATEVER THE INPUT: true; the input reads as it did. -/
def fnValueValidSpec : ChangeSpec := { name := "fnValueValid", vars := ["loop.example/musicengine/impl.valueBases", "loop.example/musicengine/impl.stepHalves"], fn := fun _ => fun
  | [d, g1, g2] => { results := [.lit (.bool true)], args := [d], vars := [g1, g2] }
  | _ => none }
def fnValueValidRow : OpenClaim := { program := "ytblbfmijaalgcaadoor", sum := "aa29f9ce1af1c5df36bf0d2648d4cd8963277f5dddad96030679789309895473", func := "loop.example/musicengine/laws.FnValueValid", spec := "fnValueValid", named := ["loop.example/musicengine/impl.valueBases", "loop.example/musicengine/impl.stepHalves"], apart := false, laid := [("loop.example/musicengine/impl.stepHalves", laid_loop_example_musicengine_impl_stepHalves), ("loop.example/musicengine/impl.valueBases", laid_loop_example_musicengine_impl_valueBases)] }
def FnValueValidSaid : Prop := fnValueValidRow.holds Tryd.pinned (OpenSpec.ofChange fnValueValidSpec)

/-- ITS FALSE NEIGHBOUR: 'it returns false'. Refute it at one input. -/
def fnValueValidWrong : ChangeSpec := { name := "fnValueValid", vars := ["loop.example/musicengine/impl.valueBases", "loop.example/musicengine/impl.stepHalves"], fn := fun _ => fun
  | [d, g1, g2] => { results := [.lit (.bool false)], args := [d], vars := [g1, g2] }
  | _ => none }
def FnValueValidWrongFalsely : Prop := fnValueValidRow.holds Tryd.pinned (OpenSpec.ofChange fnValueValidWrong)

/-- 'laws.FnTicksOf': WHATEVER THE INPUT: true; the input reads as it did. -/
def fnTicksOfSpec : ChangeSpec := { name := "fnTicksOf", vars := ["loop.example/musicengine/impl.dotQuarters", "loop.example/musicengine/impl.valueBases", "loop.example/musicengine/impl.stepHalves"], fn := fun _ => fun
  | [d, g1, g2, g3] => { results := [.lit (.bool true)], args := [d], vars := [g1, g2, g3] }
  | _ => none }
def fnTicksOfRow : OpenClaim := { program := "ytblbfmijaalgcaadoor", sum := "aa29f9ce1af1c5df36bf0d2648d4cd8963277f5dddad96030679789309895473", func := "loop.example/musicengine/laws.FnTicksOf", spec := "fnTicksOf", named := ["loop.example/musicengine/impl.dotQuarters", "loop.example/musicengine/impl.valueBases", "loop.example/musicengine/impl.stepHalves"], apart := false, laid := [("loop.example/musicengine/impl.stepHalves", laid_loop_example_musicengine_impl_stepHalves), ("loop.example/musicengine/impl.valueBases", laid_loop_example_musicengine_impl_valueBases), ("loop.example/musicengine/impl.dotQuarters", laid_loop_example_musicengine_impl_dotQuarters)] }
def FnTicksOfSaid : Prop := fnTicksOfRow.holds Tryd.pinned (OpenSpec.ofChange fnTicksOfSpec)

/-- ITS FALSE NEIGHBOUR: 'it returns false'. Refute it at one input. -/
def fnTicksOfWrong : ChangeSpec := { name := "fnTicksOf", vars := ["loop.example/musicengine/impl.dotQuarters", "loop.example/musicengine/impl.valueBases", "loop.example/musicengine/impl.stepHalves"], fn := fun _ => fun
  | [d, g1, g2, g3] => { results := [.lit (.bool false)], args := [d], vars := [g1, g2, g3] }
  | _ => none }
def FnTicksOfWrongFalsely : Prop := fnTicksOfRow.holds Tryd.pinned (OpenSpec.ofChange fnTicksOfWrong)

/-- 'laws.FnValueOf': WHATEVER THE INPUT: true; the input reads as it did. -/
def fnValueOfSpec : ChangeSpec := { name := "fnValueOf", vars := ["loop.example/musicengine/impl.valueBases", "loop.example/musicengine/impl.dotQuarters", "loop.example/musicengine/impl.stepHalves"], fn := fun _ => fun
  | [d, g1, g2, g3] => { results := [.lit (.bool true)], args := [d], vars := [g1, g2, g3] }
  | _ => none }
def fnValueOfRow : OpenClaim := { program := "ytblbfmijaalgcaadoor", sum := "aa29f9ce1af1c5df36bf0d2648d4cd8963277f5dddad96030679789309895473", func := "loop.example/musicengine/laws.FnValueOf", spec := "fnValueOf", named := ["loop.example/musicengine/impl.valueBases", "loop.example/musicengine/impl.dotQuarters", "loop.example/musicengine/impl.stepHalves"], apart := false, laid := [("loop.example/musicengine/impl.stepHalves", laid_loop_example_musicengine_impl_stepHalves), ("loop.example/musicengine/impl.valueBases", laid_loop_example_musicengine_impl_valueBases), ("loop.example/musicengine/impl.dotQuarters", laid_loop_example_musicengine_impl_dotQuarters)] }
def FnValueOfSaid : Prop := fnValueOfRow.holds Tryd.pinned (OpenSpec.ofChange fnValueOfSpec)

/-- ITS FALSE NEIGHBOUR: 'it returns false'. Refute it at one input. -/
def fnValueOfWrong : ChangeSpec := { name := "fnValueOf", vars := ["loop.example/musicengine/impl.valueBases", "loop.example/musicengine/impl.dotQuarters", "loop.example/musicengine/impl.stepHalves"], fn := fun _ => fun
  | [d, g1, g2, g3] => { results := [.lit (.bool false)], args := [d], vars := [g1, g2, g3] }
  | _ => none }
def FnValueOfWrongFalsely : Prop := fnValueOfRow.holds Tryd.pinned (OpenSpec.ofChange fnValueOfWrong)

/-- 'laws.FnTiedTicks': WHATEVER THE INPUT: true; the input reads as it did. -/
def fnTiedTicksSpec : ChangeSpec := { name := "fnTiedTicks", vars := ["loop.example/musicengine/impl.valueBases", "loop.example/musicengine/impl.dotQuarters", "loop.example/musicengine/impl.stepHalves"], fn := fun _ => fun
  | [d, g1, g2, g3] => { results := [.lit (.bool true)], args := [d], vars := [g1, g2, g3] }
  | _ => none }
def fnTiedTicksRow : OpenClaim := { program := "ytblbfmijaalgcaadoor", sum := "aa29f9ce1af1c5df36bf0d2648d4cd8963277f5dddad96030679789309895473", func := "loop.example/musicengine/laws.FnTiedTicks", spec := "fnTiedTicks", named := ["loop.example/musicengine/impl.valueBases", "loop.example/musicengine/impl.dotQuarters", "loop.example/musicengine/impl.stepHalves"], apart := false, laid := [("loop.example/musicengine/impl.stepHalves", laid_loop_example_musicengine_impl_stepHalves), ("loop.example/musicengine/impl.valueBases", laid_loop_example_musicengine_impl_valueBases), ("loop.example/musicengine/impl.dotQuarters", laid_loop_example_musicengine_impl_dotQuarters)] }
def FnTiedTicksSaid : Prop := fnTiedTicksRow.holds Tryd.pinned (OpenSpec.ofChange fnTiedTicksSpec)

/-- ITS FALSE NEIGHBOUR: 'it returns false'. Refute it at one input. -/
def fnTiedTicksWrong : ChangeSpec := { name := "fnTiedTicks", vars := ["loop.example/musicengine/impl.valueBases", "loop.example/musicengine/impl.dotQuarters", "loop.example/musicengine/impl.stepHalves"], fn := fun _ => fun
  | [d, g1, g2, g3] => { results := [.lit (.bool false)], args := [d], vars := [g1, g2, g3] }
  | _ => none }
def FnTiedTicksWrongFalsely : Prop := fnTiedTicksRow.holds Tryd.pinned (OpenSpec.ofChange fnTiedTicksWrong)

/-- 'laws.FnTiedFew': WHATEVER THE INPUT: true; the input reads as it did. -/
def fnTiedFewSpec : ChangeSpec := { name := "fnTiedFew", vars := ["loop.example/musicengine/impl.valueBases", "loop.example/musicengine/impl.dotQuarters", "loop.example/musicengine/impl.stepHalves"], fn := fun _ => fun
  | [d, g1, g2, g3] => { results := [.lit (.bool true)], args := [d], vars := [g1, g2, g3] }
  | _ => none }
def fnTiedFewRow : OpenClaim := { program := "ytblbfmijaalgcaadoor", sum := "aa29f9ce1af1c5df36bf0d2648d4cd8963277f5dddad96030679789309895473", func := "loop.example/musicengine/laws.FnTiedFew", spec := "fnTiedFew", named := ["loop.example/musicengine/impl.valueBases", "loop.example/musicengine/impl.dotQuarters", "loop.example/musicengine/impl.stepHalves"], apart := false, laid := [("loop.example/musicengine/impl.stepHalves", laid_loop_example_musicengine_impl_stepHalves), ("loop.example/musicengine/impl.valueBases", laid_loop_example_musicengine_impl_valueBases), ("loop.example/musicengine/impl.dotQuarters", laid_loop_example_musicengine_impl_dotQuarters)] }
def FnTiedFewSaid : Prop := fnTiedFewRow.holds Tryd.pinned (OpenSpec.ofChange fnTiedFewSpec)

/-- ITS FALSE NEIGHBOUR: 'it returns false'. Refute it at one input. -/
def fnTiedFewWrong : ChangeSpec := { name := "fnTiedFew", vars := ["loop.example/musicengine/impl.valueBases", "loop.example/musicengine/impl.dotQuarters", "loop.example/musicengine/impl.stepHalves"], fn := fun _ => fun
  | [d, g1, g2, g3] => { results := [.lit (.bool false)], args := [d], vars := [g1, g2, g3] }
  | _ => none }
def FnTiedFewWrongFalsely : Prop := fnTiedFewRow.holds Tryd.pinned (OpenSpec.ofChange fnTiedFewWrong)

/-- 'laws.FnExactValueValid': WHATEVER THE INPUT: true; the input reads as it did. -/
def fnExactValueValidSpec : ChangeSpec := { name := "fnExactValueValid", vars := ["loop.example/musicengine/impl.valueBases"], fn := fun _ => fun
  | [d, g1] => { results := [.lit (.bool true)], args := [d], vars := [g1] }
  | _ => none }
def fnExactValueValidRow : OpenClaim := { program := "ytblbfmijaalgcaadoor", sum := "aa29f9ce1af1c5df36bf0d2648d4cd8963277f5dddad96030679789309895473", func := "loop.example/musicengine/laws.FnExactValueValid", spec := "fnExactValueValid", named := ["loop.example/musicengine/impl.valueBases"], apart := false, laid := [("loop.example/musicengine/impl.valueBases", laid_loop_example_musicengine_impl_valueBases)] }
def FnExactValueValidSaid : Prop := fnExactValueValidRow.holds Tryd.pinned (OpenSpec.ofChange fnExactValueValidSpec)

/-- ITS FALSE NEIGHBOUR: 'it returns false'. Refute it at one input. -/
def fnExactValueValidWrong : ChangeSpec := { name := "fnExactValueValid", vars := ["loop.example/musicengine/impl.valueBases"], fn := fun _ => fun
  | [d, g1] => { results := [.lit (.bool false)], args := [d], vars := [g1] }
  | _ => none }
def FnExactValueValidWrongFalsely : Prop := fnExactValueValidRow.holds Tryd.pinned (OpenSpec.ofChange fnExactValueValidWrong)

/-- 'laws.FnExactTicksOf': WHATEVER THE INPUT: true; the input reads as it did. -/
def fnExactTicksOfSpec : ChangeSpec := { name := "fnExactTicksOf", vars := ["loop.example/musicengine/impl.dotQuarters", "loop.example/musicengine/impl.valueBases"], fn := fun _ => fun
  | [d, g1, g2] => { results := [.lit (.bool true)], args := [d], vars := [g1, g2] }
  | _ => none }
def fnExactTicksOfRow : OpenClaim := { program := "ytblbfmijaalgcaadoor", sum := "aa29f9ce1af1c5df36bf0d2648d4cd8963277f5dddad96030679789309895473", func := "loop.example/musicengine/laws.FnExactTicksOf", spec := "fnExactTicksOf", named := ["loop.example/musicengine/impl.dotQuarters", "loop.example/musicengine/impl.valueBases"], apart := false, laid := [("loop.example/musicengine/impl.valueBases", laid_loop_example_musicengine_impl_valueBases), ("loop.example/musicengine/impl.dotQuarters", laid_loop_example_musicengine_impl_dotQuarters)] }
def FnExactTicksOfSaid : Prop := fnExactTicksOfRow.holds Tryd.pinned (OpenSpec.ofChange fnExactTicksOfSpec)

/-- ITS FALSE NEIGHBOUR: 'it returns false'. Refute it at one input. -/
def fnExactTicksOfWrong : ChangeSpec := { name := "fnExactTicksOf", vars := ["loop.example/musicengine/impl.dotQuarters", "loop.example/musicengine/impl.valueBases"], fn := fun _ => fun
  | [d, g1, g2] => { results := [.lit (.bool false)], args := [d], vars := [g1, g2] }
  | _ => none }
def FnExactTicksOfWrongFalsely : Prop := fnExactTicksOfRow.holds Tryd.pinned (OpenSpec.ofChange fnExactTicksOfWrong)

/-- 'laws.FnExactValueOf': WHATEVER THE INPUT: true; the input reads as it did. -/
def fnExactValueOfSpec : ChangeSpec := { name := "fnExactValueOf", vars := ["loop.example/musicengine/impl.valueBases", "loop.example/musicengine/impl.dotQuarters"], fn := fun _ => fun
  | [d, g1, g2] => { results := [.lit (.bool true)], args := [d], vars := [g1, g2] }
  | _ => none }
def fnExactValueOfRow : OpenClaim := { program := "ytblbfmijaalgcaadoor", sum := "aa29f9ce1af1c5df36bf0d2648d4cd8963277f5dddad96030679789309895473", func := "loop.example/musicengine/laws.FnExactValueOf", spec := "fnExactValueOf", named := ["loop.example/musicengine/impl.valueBases", "loop.example/musicengine/impl.dotQuarters"], apart := false, laid := [("loop.example/musicengine/impl.valueBases", laid_loop_example_musicengine_impl_valueBases), ("loop.example/musicengine/impl.dotQuarters", laid_loop_example_musicengine_impl_dotQuarters)] }
def FnExactValueOfSaid : Prop := fnExactValueOfRow.holds Tryd.pinned (OpenSpec.ofChange fnExactValueOfSpec)

/-- ITS FALSE NEIGHBOUR: 'it returns false'. Refute it at one input. -/
def fnExactValueOfWrong : ChangeSpec := { name := "fnExactValueOf", vars := ["loop.example/musicengine/impl.valueBases", "loop.example/musicengine/impl.dotQuarters"], fn := fun _ => fun
  | [d, g1, g2] => { results := [.lit (.bool false)], args := [d], vars := [g1, g2] }
  | _ => none }
def FnExactValueOfWrongFalsely : Prop := fnExactValueOfRow.holds Tryd.pinned (OpenSpec.ofChange fnExactValueOfWrong)

/-- 'laws.FnExactTiedTicks': WHATEVER THE INPUT: true; the input reads as it did. -/
def fnExactTiedTicksSpec : ChangeSpec := { name := "fnExactTiedTicks", vars := ["loop.example/musicengine/impl.valueBases", "loop.example/musicengine/impl.dotQuarters"], fn := fun _ => fun
  | [d, g1, g2] => { results := [.lit (.bool true)], args := [d], vars := [g1, g2] }
  | _ => none }
def fnExactTiedTicksRow : OpenClaim := { program := "ytblbfmijaalgcaadoor", sum := "aa29f9ce1af1c5df36bf0d2648d4cd8963277f5dddad96030679789309895473", func := "loop.example/musicengine/laws.FnExactTiedTicks", spec := "fnExactTiedTicks", named := ["loop.example/musicengine/impl.valueBases", "loop.example/musicengine/impl.dotQuarters"], apart := false, laid := [("loop.example/musicengine/impl.valueBases", laid_loop_example_musicengine_impl_valueBases), ("loop.example/musicengine/impl.dotQuarters", laid_loop_example_musicengine_impl_dotQuarters)] }
def FnExactTiedTicksSaid : Prop := fnExactTiedTicksRow.holds Tryd.pinned (OpenSpec.ofChange fnExactTiedTicksSpec)

/-- ITS FALSE NEIGHBOUR: 'it returns false'. Refute it at one input. -/
def fnExactTiedTicksWrong : ChangeSpec := { name := "fnExactTiedTicks", vars := ["loop.example/musicengine/impl.valueBases", "loop.example/musicengine/impl.dotQuarters"], fn := fun _ => fun
  | [d, g1, g2] => { results := [.lit (.bool false)], args := [d], vars := [g1, g2] }
  | _ => none }
def FnExactTiedTicksWrongFalsely : Prop := fnExactTiedTicksRow.holds Tryd.pinned (OpenSpec.ofChange fnExactTiedTicksWrong)

/- THE SECOND FORM. 'bulk': how many values and letters a reading holds, each counted each time it is reached (what is shared counts as often as it is met; a slice's spare places count too). A statement '..UptoSaid' is the law's where the arguments, and the package variables that the reading takes, are together of bulk at most 1048576: NARROWER than '..Said'. Prove '..Said' where nothing that the law and all that it calls make is longer than what came in: it says more and counts as full. Else prove '..UptoSaid'. A law counts once. -/
mutual
def uptoBulk {H : Type} : DataW H → Nat
  | .lit (.string bytes) => bytes.length + 1
  | .lit _ => 1
  | .nil => 1
  | .ptr d => uptoBulk d + 1
  | .slice elems spare => uptoBulkAll elems + uptoBulkAll spare + 1
  | .agg parts => uptoBulkAll parts + 1
  | .iface _ d => uptoBulk d + 1
  | .map entries => uptoBulkEntries entries + 1
  | .held _ => 1
def uptoBulkAll {H : Type} : List (DataW H) → Nat
  | [] => 0
  | d :: r => uptoBulk d + uptoBulkAll r
def uptoBulkEntries {H : Type} : List (Lit × DataW H) → Nat
  | [] => 0
  | x :: r => uptoBulkEntry x + uptoBulkEntries r
def uptoBulkEntry {H : Type} : Lit × DataW H → Nat
  | (.string bytes, d) => bytes.length + uptoBulk d + 1
  | (_, d) => uptoBulk d + 1
 end
def uptoSmall : (H : Type) → List (DataW H) → Bool := fun _ ds => decide (uptoBulkAll ds ≤ 1048576)
def OpenSpec.upto (s : _root_.Go.ChangeSpec) : _root_.Go.OpenSpec := { _root_.Go.OpenSpec.ofChange s with cond := some uptoSmall }

/-- 'laws.FnValueValid', WHERE WHAT IT READS IS OF BULK AT MOST 1048576: true; the input reads as it did. -/
def fnValueValidUptoRow : OpenClaim := { program := "ytblbfmijaalgcaadoor", sum := "aa29f9ce1af1c5df36bf0d2648d4cd8963277f5dddad96030679789309895473", func := "loop.example/musicengine/laws.FnValueValid", spec := "fnValueValid", named := ["loop.example/musicengine/impl.valueBases", "loop.example/musicengine/impl.stepHalves"], apart := false, laid := [("loop.example/musicengine/impl.stepHalves", laid_loop_example_musicengine_impl_stepHalves), ("loop.example/musicengine/impl.valueBases", laid_loop_example_musicengine_impl_valueBases)], narrowed := true }
def FnValueValidUptoSaid : Prop := fnValueValidUptoRow.holds Tryd.pinned (OpenSpec.upto fnValueValidSpec)

/-- 'laws.FnTicksOf', WHERE WHAT IT READS IS OF BULK AT MOST 1048576: true; the input reads as it did. -/
def fnTicksOfUptoRow : OpenClaim := { program := "ytblbfmijaalgcaadoor", sum := "aa29f9ce1af1c5df36bf0d2648d4cd8963277f5dddad96030679789309895473", func := "loop.example/musicengine/laws.FnTicksOf", spec := "fnTicksOf", named := ["loop.example/musicengine/impl.dotQuarters", "loop.example/musicengine/impl.valueBases", "loop.example/musicengine/impl.stepHalves"], apart := false, laid := [("loop.example/musicengine/impl.stepHalves", laid_loop_example_musicengine_impl_stepHalves), ("loop.example/musicengine/impl.valueBases", laid_loop_example_musicengine_impl_valueBases), ("loop.example/musicengine/impl.dotQuarters", laid_loop_example_musicengine_impl_dotQuarters)], narrowed := true }
def FnTicksOfUptoSaid : Prop := fnTicksOfUptoRow.holds Tryd.pinned (OpenSpec.upto fnTicksOfSpec)

/-- 'laws.FnValueOf', WHERE WHAT IT READS IS OF BULK AT MOST 1048576: true; the input reads as it did. -/
def fnValueOfUptoRow : OpenClaim := { program := "ytblbfmijaalgcaadoor", sum := "aa29f9ce1af1c5df36bf0d2648d4cd8963277f5dddad96030679789309895473", func := "loop.example/musicengine/laws.FnValueOf", spec := "fnValueOf", named := ["loop.example/musicengine/impl.valueBases", "loop.example/musicengine/impl.dotQuarters", "loop.example/musicengine/impl.stepHalves"], apart := false, laid := [("loop.example/musicengine/impl.stepHalves", laid_loop_example_musicengine_impl_stepHalves), ("loop.example/musicengine/impl.valueBases", laid_loop_example_musicengine_impl_valueBases), ("loop.example/musicengine/impl.dotQuarters", laid_loop_example_musicengine_impl_dotQuarters)], narrowed := true }
def FnValueOfUptoSaid : Prop := fnValueOfUptoRow.holds Tryd.pinned (OpenSpec.upto fnValueOfSpec)

/-- 'laws.FnTiedTicks', WHERE WHAT IT READS IS OF BULK AT MOST 1048576: true; the input reads as it did. -/
def fnTiedTicksUptoRow : OpenClaim := { program := "ytblbfmijaalgcaadoor", sum := "aa29f9ce1af1c5df36bf0d2648d4cd8963277f5dddad96030679789309895473", func := "loop.example/musicengine/laws.FnTiedTicks", spec := "fnTiedTicks", named := ["loop.example/musicengine/impl.valueBases", "loop.example/musicengine/impl.dotQuarters", "loop.example/musicengine/impl.stepHalves"], apart := false, laid := [("loop.example/musicengine/impl.stepHalves", laid_loop_example_musicengine_impl_stepHalves), ("loop.example/musicengine/impl.valueBases", laid_loop_example_musicengine_impl_valueBases), ("loop.example/musicengine/impl.dotQuarters", laid_loop_example_musicengine_impl_dotQuarters)], narrowed := true }
def FnTiedTicksUptoSaid : Prop := fnTiedTicksUptoRow.holds Tryd.pinned (OpenSpec.upto fnTiedTicksSpec)

/-- 'laws.FnTiedFew', WHERE WHAT IT READS IS OF BULK AT MOST 1048576: true; the input reads as it did. -/
def fnTiedFewUptoRow : OpenClaim := { program := "ytblbfmijaalgcaadoor", sum := "aa29f9ce1af1c5df36bf0d2648d4cd8963277f5dddad96030679789309895473", func := "loop.example/musicengine/laws.FnTiedFew", spec := "fnTiedFew", named := ["loop.example/musicengine/impl.valueBases", "loop.example/musicengine/impl.dotQuarters", "loop.example/musicengine/impl.stepHalves"], apart := false, laid := [("loop.example/musicengine/impl.stepHalves", laid_loop_example_musicengine_impl_stepHalves), ("loop.example/musicengine/impl.valueBases", laid_loop_example_musicengine_impl_valueBases), ("loop.example/musicengine/impl.dotQuarters", laid_loop_example_musicengine_impl_dotQuarters)], narrowed := true }
def FnTiedFewUptoSaid : Prop := fnTiedFewUptoRow.holds Tryd.pinned (OpenSpec.upto fnTiedFewSpec)

/-- 'laws.FnExactValueValid', WHERE WHAT IT READS IS OF BULK AT MOST 1048576: true; the input reads as it did. -/
def fnExactValueValidUptoRow : OpenClaim := { program := "ytblbfmijaalgcaadoor", sum := "aa29f9ce1af1c5df36bf0d2648d4cd8963277f5dddad96030679789309895473", func := "loop.example/musicengine/laws.FnExactValueValid", spec := "fnExactValueValid", named := ["loop.example/musicengine/impl.valueBases"], apart := false, laid := [("loop.example/musicengine/impl.valueBases", laid_loop_example_musicengine_impl_valueBases)], narrowed := true }
def FnExactValueValidUptoSaid : Prop := fnExactValueValidUptoRow.holds Tryd.pinned (OpenSpec.upto fnExactValueValidSpec)

/-- 'laws.FnExactTicksOf', WHERE WHAT IT READS IS OF BULK AT MOST 1048576: true; the input reads as it did. -/
def fnExactTicksOfUptoRow : OpenClaim := { program := "ytblbfmijaalgcaadoor", sum := "aa29f9ce1af1c5df36bf0d2648d4cd8963277f5dddad96030679789309895473", func := "loop.example/musicengine/laws.FnExactTicksOf", spec := "fnExactTicksOf", named := ["loop.example/musicengine/impl.dotQuarters", "loop.example/musicengine/impl.valueBases"], apart := false, laid := [("loop.example/musicengine/impl.valueBases", laid_loop_example_musicengine_impl_valueBases), ("loop.example/musicengine/impl.dotQuarters", laid_loop_example_musicengine_impl_dotQuarters)], narrowed := true }
def FnExactTicksOfUptoSaid : Prop := fnExactTicksOfUptoRow.holds Tryd.pinned (OpenSpec.upto fnExactTicksOfSpec)

/-- 'laws.FnExactValueOf', WHERE WHAT IT READS IS OF BULK AT MOST 1048576: true; the input reads as it did. -/
def fnExactValueOfUptoRow : OpenClaim := { program := "ytblbfmijaalgcaadoor", sum := "aa29f9ce1af1c5df36bf0d2648d4cd8963277f5dddad96030679789309895473", func := "loop.example/musicengine/laws.FnExactValueOf", spec := "fnExactValueOf", named := ["loop.example/musicengine/impl.valueBases", "loop.example/musicengine/impl.dotQuarters"], apart := false, laid := [("loop.example/musicengine/impl.valueBases", laid_loop_example_musicengine_impl_valueBases), ("loop.example/musicengine/impl.dotQuarters", laid_loop_example_musicengine_impl_dotQuarters)], narrowed := true }
def FnExactValueOfUptoSaid : Prop := fnExactValueOfUptoRow.holds Tryd.pinned (OpenSpec.upto fnExactValueOfSpec)

/-- 'laws.FnExactTiedTicks', WHERE WHAT IT READS IS OF BULK AT MOST 1048576: true; the input reads as it did. -/
def fnExactTiedTicksUptoRow : OpenClaim := { program := "ytblbfmijaalgcaadoor", sum := "aa29f9ce1af1c5df36bf0d2648d4cd8963277f5dddad96030679789309895473", func := "loop.example/musicengine/laws.FnExactTiedTicks", spec := "fnExactTiedTicks", named := ["loop.example/musicengine/impl.valueBases", "loop.example/musicengine/impl.dotQuarters"], apart := false, laid := [("loop.example/musicengine/impl.valueBases", laid_loop_example_musicengine_impl_valueBases), ("loop.example/musicengine/impl.dotQuarters", laid_loop_example_musicengine_impl_dotQuarters)], narrowed := true }
def FnExactTiedTicksUptoSaid : Prop := fnExactTiedTicksUptoRow.holds Tryd.pinned (OpenSpec.upto fnExactTiedTicksSpec)

end Rows
end Go.Proofs.YtblbfmijaalgcaaDoor
