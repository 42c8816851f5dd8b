/-
  NARROWER THAN 'FOR EVERY INPUT', by the rows' own cells (each row's printed sentence says how): FnStackFault: laid · FnMoveFault: laid · FnPartsFaults: laid · FnExactStackFault: laid · FnExactMoveFault: laid · FnExactPartsFaults: laid.
  DERIVED. THE GIVEN ROWS OF THIS SEAT. 6 by the template 'for every input the law returns true; each argument reads behind the call as it read before'; 0 by the template 'total and deterministic' (their statements: YtcmhfjpofkgjbaaDoorTotals.lean).
  GIVEN WITH THE SEED: the statements are not yours to turn. If you find one false, say at which input.
  Laid BY PROGRAM, IN A SANDBOX (cutbox-rows.mjs): the forced cells as the released guide's own fill.sh prints them over the translation c195ae0cc7dda373… (all of the seat's roots in one cut). By AI agents, Wed Nov 11 2026. No macro, syntax, notation, axiom, sorry.
-/
import Derived.Test.YtcmhfjpofkgjbaaDoorChecked
import GoSem.Claim
import GoSem.ClaimJoined
import GoSem.ClaimMapViews
import Derived.JoinedTies
import Derived.KernelRfl
namespace Go.Proofs.YtcmhfjpofkgjbaaDoor
/- THE CELL 'sum', in the pinned program and in every row, IS THE sha256 OF THE DUMP (.gsa) THAT YtcmhfjpofkgjbaaDoorProg.lean LOADS. Nothing in Lean hashes anything: it is a label: what it is worth is what the hold of that sum in a sandbox is worth. -/
noncomputable def Tryd.pinned : Pinned := { name := "ytcmhfjpofkgjbaadoor", sum := "c195ae0cc7dda373cea9d647a9946da5062e36ee992c3489d9280aa18789d3f6", checked := Tryd.checked }
namespace Rows
def none {H : Type} : Left H := { results := [], args := [] }

/- WHAT THE LISTED PACKAGE-LEVEL VARIABLES READ AS WHEN THE CALL BEGINS. Each datum BY PROGRAM (the guide's laid-datum.mjs) off the statement by which the dump's own 'gosem.cut.vars' lays the variable. In a bare row this is a premise. The card (YtcmhfjpofkgjbaaDoorCards.lean) ties it to the program's text. -/
def laid_loop_example_musicengine_impl_voiceRanges {H : Type} : DataW H := .agg [.agg [.lit (.int .i64 28), .lit (.int .i64 48)], .agg [.lit (.int .i64 36), .lit (.int .i64 55)], .agg [.lit (.int .i64 43), .lit (.int .i64 62)], .agg [.lit (.int .i64 48), .lit (.int .i64 67)]]
def laid_loop_example_musicengine_impl_stepHalves {H : Type} : DataW H := .agg [.lit (.int .i64 0), .lit (.int .i64 2), .lit (.int .i64 4), .lit (.int .i64 5), .lit (.int .i64 7), .lit (.int .i64 9), .lit (.int .i64 11)]

/-- 'laws.FnStackFault': WHATEVER THE INPUT: true; the input reads as it did. -/
def fnStackFaultSpec : ChangeSpec := { name := "fnStackFault", vars := ["loop.example/musicengine/impl.stepHalves", "loop.example/musicengine/impl.voiceRanges"], fn := fun _ => fun
  | [d, g1, g2] => { results := [.lit (.bool true)], args := [d], vars := [g1, g2] }
  | _ => none }
def fnStackFaultRow : OpenClaim := { program := "ytcmhfjpofkgjbaadoor", sum := "c195ae0cc7dda373cea9d647a9946da5062e36ee992c3489d9280aa18789d3f6", func := "loop.example/musicengine/laws.FnStackFault", spec := "fnStackFault", named := ["loop.example/musicengine/impl.stepHalves", "loop.example/musicengine/impl.voiceRanges"], apart := false, laid := [("loop.example/musicengine/impl.voiceRanges", laid_loop_example_musicengine_impl_voiceRanges), ("loop.example/musicengine/impl.stepHalves", laid_loop_example_musicengine_impl_stepHalves)] }
def FnStackFaultSaid : Prop := fnStackFaultRow.holds Tryd.pinned (OpenSpec.ofChange fnStackFaultSpec)

/-- ITS FALSE NEIGHBOUR: 'it returns false'. Refute it at one input. -/
def fnStackFaultWrong : ChangeSpec := { name := "fnStackFault", vars := ["loop.example/musicengine/impl.stepHalves", "loop.example/musicengine/impl.voiceRanges"], fn := fun _ => fun
  | [d, g1, g2] => { results := [.lit (.bool false)], args := [d], vars := [g1, g2] }
  | _ => none }
def FnStackFaultWrongFalsely : Prop := fnStackFaultRow.holds Tryd.pinned (OpenSpec.ofChange fnStackFaultWrong)

/-- 'laws.FnMoveFault': WHATEVER THE INPUT: true; the input reads as it did. -/
def fnMoveFaultSpec : ChangeSpec := { name := "fnMoveFault", vars := ["loop.example/musicengine/impl.stepHalves"], fn := fun _ => fun
  | [d, g1] => { results := [.lit (.bool true)], args := [d], vars := [g1] }
  | _ => none }
def fnMoveFaultRow : OpenClaim := { program := "ytcmhfjpofkgjbaadoor", sum := "c195ae0cc7dda373cea9d647a9946da5062e36ee992c3489d9280aa18789d3f6", func := "loop.example/musicengine/laws.FnMoveFault", spec := "fnMoveFault", named := ["loop.example/musicengine/impl.stepHalves"], apart := false, laid := [("loop.example/musicengine/impl.stepHalves", laid_loop_example_musicengine_impl_stepHalves)] }
def FnMoveFaultSaid : Prop := fnMoveFaultRow.holds Tryd.pinned (OpenSpec.ofChange fnMoveFaultSpec)

/-- ITS FALSE NEIGHBOUR: 'it returns false'. Refute it at one input. -/
def fnMoveFaultWrong : ChangeSpec := { name := "fnMoveFault", vars := ["loop.example/musicengine/impl.stepHalves"], fn := fun _ => fun
  | [d, g1] => { results := [.lit (.bool false)], args := [d], vars := [g1] }
  | _ => none }
def FnMoveFaultWrongFalsely : Prop := fnMoveFaultRow.holds Tryd.pinned (OpenSpec.ofChange fnMoveFaultWrong)

/-- 'laws.FnPartsFaults': WHATEVER THE INPUT: true; the input reads as it did. -/
def fnPartsFaultsSpec : ChangeSpec := { name := "fnPartsFaults", vars := ["loop.example/musicengine/impl.stepHalves", "loop.example/musicengine/impl.voiceRanges"], fn := fun _ => fun
  | [d, g1, g2] => { results := [.lit (.bool true)], args := [d], vars := [g1, g2] }
  | _ => none }
def fnPartsFaultsRow : OpenClaim := { program := "ytcmhfjpofkgjbaadoor", sum := "c195ae0cc7dda373cea9d647a9946da5062e36ee992c3489d9280aa18789d3f6", func := "loop.example/musicengine/laws.FnPartsFaults", spec := "fnPartsFaults", named := ["loop.example/musicengine/impl.stepHalves", "loop.example/musicengine/impl.voiceRanges"], apart := false, laid := [("loop.example/musicengine/impl.voiceRanges", laid_loop_example_musicengine_impl_voiceRanges), ("loop.example/musicengine/impl.stepHalves", laid_loop_example_musicengine_impl_stepHalves)] }
def FnPartsFaultsSaid : Prop := fnPartsFaultsRow.holds Tryd.pinned (OpenSpec.ofChange fnPartsFaultsSpec)

/-- ITS FALSE NEIGHBOUR: 'it returns false'. Refute it at one input. -/
def fnPartsFaultsWrong : ChangeSpec := { name := "fnPartsFaults", vars := ["loop.example/musicengine/impl.stepHalves", "loop.example/musicengine/impl.voiceRanges"], fn := fun _ => fun
  | [d, g1, g2] => { results := [.lit (.bool false)], args := [d], vars := [g1, g2] }
  | _ => none }
def FnPartsFaultsWrongFalsely : Prop := fnPartsFaultsRow.holds Tryd.pinned (OpenSpec.ofChange fnPartsFaultsWrong)

/-- 'laws.FnExactStackFault': WHATEVER THE INPUT: true; the input reads as it did. -/
def fnExactStackFaultSpec : ChangeSpec := { name := "fnExactStackFault", vars := ["loop.example/musicengine/impl.stepHalves", "loop.example/musicengine/impl.voiceRanges"], fn := fun _ => fun
  | [d, g1, g2] => { results := [.lit (.bool true)], args := [d], vars := [g1, g2] }
  | _ => none }
def fnExactStackFaultRow : OpenClaim := { program := "ytcmhfjpofkgjbaadoor", sum := "c195ae0cc7dda373cea9d647a9946da5062e36ee992c3489d9280aa18789d3f6", func := "loop.example/musicengine/laws.FnExactStackFault", spec := "fnExactStackFault", named := ["loop.example/musicengine/impl.stepHalves", "loop.example/musicengine/impl.voiceRanges"], apart := false, laid := [("loop.example/musicengine/impl.voiceRanges", laid_loop_example_musicengine_impl_voiceRanges), ("loop.example/musicengine/impl.stepHalves", laid_loop_example_musicengine_impl_stepHalves)] }
def FnExactStackFaultSaid : Prop := fnExactStackFaultRow.holds Tryd.pinned (OpenSpec.ofChange fnExactStackFaultSpec)

/-- ITS FALSE NEIGHBOUR: 'it returns false'. Refute it at one input. -/
def fnExactStackFaultWrong : ChangeSpec := { name := "fnExactStackFault", vars := ["loop.example/musicengine/impl.stepHalves", "loop.example/musicengine/impl.voiceRanges"], fn := fun _ => fun
  | [d, g1, g2] => { results := [.lit (.bool false)], args := [d], vars := [g1, g2] }
  | _ => none }
def FnExactStackFaultWrongFalsely : Prop := fnExactStackFaultRow.holds Tryd.pinned (OpenSpec.ofChange fnExactStackFaultWrong)

/-- 'laws.FnExactMoveFault': WHATEVER THE INPUT: true; the input reads as it did. -/
def fnExactMoveFaultSpec : ChangeSpec := { name := "fnExactMoveFault", vars := ["loop.example/musicengine/impl.stepHalves"], fn := fun _ => fun
  | [d1, d2, g1] => { results := [.lit (.bool true)], args := [d1, d2], vars := [g1] }
  | _ => none }
def fnExactMoveFaultRow : OpenClaim := { program := "ytcmhfjpofkgjbaadoor", sum := "c195ae0cc7dda373cea9d647a9946da5062e36ee992c3489d9280aa18789d3f6", func := "loop.example/musicengine/laws.FnExactMoveFault", spec := "fnExactMoveFault", named := ["loop.example/musicengine/impl.stepHalves"], apart := false, laid := [("loop.example/musicengine/impl.stepHalves", laid_loop_example_musicengine_impl_stepHalves)] }
def FnExactMoveFaultSaid : Prop := fnExactMoveFaultRow.holds Tryd.pinned (OpenSpec.ofChange fnExactMoveFaultSpec)

/-- ITS FALSE NEIGHBOUR: 'it returns false'. Refute it at one input. -/
def fnExactMoveFaultWrong : ChangeSpec := { name := "fnExactMoveFault", vars := ["loop.example/musicengine/impl.stepHalves"], fn := fun _ => fun
  | [d1, d2, g1] => { results := [.lit (.bool false)], args := [d1, d2], vars := [g1] }
  | _ => none }
def FnExactMoveFaultWrongFalsely : Prop := fnExactMoveFaultRow.holds Tryd.pinned (OpenSpec.ofChange fnExactMoveFaultWrong)

/-- 'laws.FnExactPartsFaults': WHATEVER THE INPUT: true; the input reads as it did. -/
def fnExactPartsFaultsSpec : ChangeSpec := { name := "fnExactPartsFaults", vars := ["loop.example/musicengine/impl.stepHalves", "loop.example/musicengine/impl.voiceRanges"], fn := fun _ => fun
  | [d, g1, g2] => { results := [.lit (.bool true)], args := [d], vars := [g1, g2] }
  | _ => none }
def fnExactPartsFaultsRow : OpenClaim := { program := "ytcmhfjpofkgjbaadoor", sum := "c195ae0cc7dda373cea9d647a9946da5062e36ee992c3489d9280aa18789d3f6", func := "loop.example/musicengine/laws.FnExactPartsFaults", spec := "fnExactPartsFaults", named := ["loop.example/musicengine/impl.stepHalves", "loop.example/musicengine/impl.voiceRanges"], apart := false, laid := [("loop.example/musicengine/impl.voiceRanges", laid_loop_example_musicengine_impl_voiceRanges), ("loop.example/musicengine/impl.stepHalves", laid_loop_example_musicengine_impl_stepHalves)] }
def FnExactPartsFaultsSaid : Prop := fnExactPartsFaultsRow.holds Tryd.pinned (OpenSpec.ofChange fnExactPartsFaultsSpec)

/-- ITS FALSE NEIGHBOUR: 'it returns false'. Refute it at one input. -/
def fnExactPartsFaultsWrong : ChangeSpec := { name := "fnExactPartsFaults", vars := ["loop.example/musicengine/impl.stepHalves", "loop.example/musicengine/impl.voiceRanges"], fn := fun _ => fun
  | [d, g1, g2] => { results := [.lit (.bool false)], args := [d], vars := [g1, g2] }
  | _ => none }
def FnExactPartsFaultsWrongFalsely : Prop := fnExactPartsFaultsRow.holds Tryd.pinned (OpenSpec.ofChange fnExactPartsFaultsWrong)

/- THE SECOND FORM. 'bulk': how many values and letters a reading holds, each counted each time it is reached (what is shared counts as often as it is met; a slice's spare places count too). A statement '..UptoSaid' is the law's where the arguments, and the package variables that the reading takes, are together of bulk at most 1048576: NARROWER than '..Said'. Prove '..Said' where nothing that the law and all that it calls make is longer than what came in: it says more and counts as full. Else prove '..UptoSaid'. A law counts once. -/
mutual
def uptoBulk {H : Type} : DataW H → Nat
  | .lit (.string bytes) => bytes.length + 1
  | .lit _ => 1
  | .nil => 1
  | .ptr d => uptoBulk d + 1
  | .slice elems spare => uptoBulkAll elems + uptoBulkAll spare + 1
  | .agg parts => uptoBulkAll parts + 1
  | .iface _ d => uptoBulk d + 1
  | .map entries => uptoBulkEntries entries + 1
  | .held _ => 1
def uptoBulkAll {H : Type} : List (DataW H) → Nat
  | [] => 0
  | d :: r => uptoBulk d + uptoBulkAll r
def uptoBulkEntries {H : Type} : List (Lit × DataW H) → Nat
  | [] => 0
  | x :: r => uptoBulkEntry x + uptoBulkEntries r
def uptoBulkEntry {H : Type} : Lit × DataW H → Nat
  | (.string bytes, d) => bytes.length + uptoBulk d + 1
  | (_, d) => uptoBulk d + 1
 end
def uptoSmall : (H : Type) → List (DataW H) → Bool := fun _ ds => decide (uptoBulkAll ds ≤ 1048576)
def OpenSpec.upto (s : _root_.Go.ChangeSpec) : _root_.Go.OpenSpec := { _root_.Go.OpenSpec.ofChange s with cond := some uptoSmall }

/-- 'laws.FnStackFault', WHERE WHAT IT READS IS OF BULK AT MOST 1048576: true; the input reads as it did. -/
def fnStackFaultUptoRow : OpenClaim := { program := "ytcmhfjpofkgjbaadoor", sum := "c195ae0cc7dda373cea9d647a9946da5062e36ee992c3489d9280aa18789d3f6", func := "loop.example/musicengine/laws.FnStackFault", spec := "fnStackFault", named := ["loop.example/musicengine/impl.stepHalves", "loop.example/musicengine/impl.voiceRanges"], apart := false, laid := [("loop.example/musicengine/impl.voiceRanges", laid_loop_example_musicengine_impl_voiceRanges), ("loop.example/musicengine/impl.stepHalves", laid_loop_example_musicengine_impl_stepHalves)], narrowed := true }
def FnStackFaultUptoSaid : Prop := fnStackFaultUptoRow.holds Tryd.pinned (OpenSpec.upto fnStackFaultSpec)

/-- 'laws.FnMoveFault', WHERE WHAT IT READS IS OF BULK AT MOST 1048576: true; the input reads as it did. -/
def fnMoveFaultUptoRow : OpenClaim := { program := "ytcmhfjpofkgjbaadoor", sum := "c195ae0cc7dda373cea9d647a9946da5062e36ee992c3489d9280aa18789d3f6", func := "loop.example/musicengine/laws.FnMoveFault", spec := "fnMoveFault", named := ["loop.example/musicengine/impl.stepHalves"], apart := false, laid := [("loop.example/musicengine/impl.stepHalves", laid_loop_example_musicengine_impl_stepHalves)], narrowed := true }
def FnMoveFaultUptoSaid : Prop := fnMoveFaultUptoRow.holds Tryd.pinned (OpenSpec.upto fnMoveFaultSpec)

/-- 'laws.FnPartsFaults', WHERE WHAT IT READS IS OF BULK AT MOST 1048576: true; the input reads as it did. -/
def fnPartsFaultsUptoRow : OpenClaim := { program := "ytcmhfjpofkgjbaadoor", sum := "c195ae0cc7dda373cea9d647a9946da5062e36ee992c3489d9280aa18789d3f6", func := "loop.example/musicengine/laws.FnPartsFaults", spec := "fnPartsFaults", named := ["loop.example/musicengine/impl.stepHalves", "loop.example/musicengine/impl.voiceRanges"], apart := false, laid := [("loop.example/musicengine/impl.voiceRanges", laid_loop_example_musicengine_impl_voiceRanges), ("loop.example/musicengine/impl.stepHalves", laid_loop_example_musicengine_impl_stepHalves)], narrowed := true }
def FnPartsFaultsUptoSaid : Prop := fnPartsFaultsUptoRow.holds Tryd.pinned (OpenSpec.upto fnPartsFaultsSpec)

/-- 'laws.FnExactStackFault', WHERE WHAT IT READS IS OF BULK AT MOST 1048576: true; the input reads as it did. -/
def fnExactStackFaultUptoRow : OpenClaim := { program := "ytcmhfjpofkgjbaadoor", sum := "c195ae0cc7dda373cea9d647a9946da5062e36ee992c3489d9280aa18789d3f6", func := "loop.example/musicengine/laws.FnExactStackFault", spec := "fnExactStackFault", named := ["loop.example/musicengine/impl.stepHalves", "loop.example/musicengine/impl.voiceRanges"], apart := false, laid := [("loop.example/musicengine/impl.voiceRanges", laid_loop_example_musicengine_impl_voiceRanges), ("loop.example/musicengine/impl.stepHalves", laid_loop_example_musicengine_impl_stepHalves)], narrowed := true }
def FnExactStackFaultUptoSaid : Prop := fnExactStackFaultUptoRow.holds Tryd.pinned (OpenSpec.upto fnExactStackFaultSpec)

/-- 'laws.FnExactMoveFault', WHERE WHAT IT READS IS OF BULK AT MOST 1048576: true; the input reads as it did. -/
def fnExactMoveFaultUptoRow : OpenClaim := { program := "ytcmhfjpofkgjbaadoor", sum := "c195ae0cc7dda373cea9d647a9946da5062e36ee992c3489d9280aa18789d3f6", func := "loop.example/musicengine/laws.FnExactMoveFault", spec := "fnExactMoveFault", named := ["loop.example/musicengine/impl.stepHalves"], apart := false, laid := [("loop.example/musicengine/impl.stepHalves", laid_loop_example_musicengine_impl_stepHalves)], narrowed := true }
def FnExactMoveFaultUptoSaid : Prop := fnExactMoveFaultUptoRow.holds Tryd.pinned (OpenSpec.upto fnExactMoveFaultSpec)

/-- 'laws.FnExactPartsFaults', WHERE WHAT IT READS IS OF BULK AT MOST 1048576: true; the input reads as it did. -/
def fnExactPartsFaultsUptoRow : OpenClaim := { program := "ytcmhfjpofkgjbaadoor", sum := "c195ae0cc7dda373cea9d647a9946da5062e36ee992c3489d9280aa18789d3f6", func := "loop.example/musicengine/laws.FnExactPartsFaults", spec := "fnExactPartsFaults", named := ["loop.example/musicengine/impl.stepHalves", "loop.example/musicengine/impl.voiceRanges"], apart := false, laid := [("loop.example/musicengine/impl.voiceRanges", laid_loop_example_musicengine_impl_voiceRanges), ("loop.example/musicengine/impl.stepHalves", laid_loop_example_musicengine_impl_stepHalves)], narrowed := true }
def FnExactPartsFaultsUptoSaid : Prop := fnExactPartsFaultsUptoRow.holds Tryd.pinned (OpenSpec.upto fnExactPartsFaultsSpec)

end Rows
end Go.Proofs.YtcmhfjpofkgjbaaDoor
