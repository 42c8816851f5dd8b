/-
  NARROWER THAN 'FOR EVERY INPUT', by the rows' own cells (each row's printed sentence says how): FnSectionValid: laid · FnSectionsValid: laid · FnWrittenBars: laid · FnPlayedOrder: laid · FnUnfoldBars: laid · FnSectionsJoin: laid.
  DERIVED. THE GIVEN ROWS OF THIS SEAT. 6 by the template 'for every input the law returns true; each argument reads behind the call as it read before'; 0 by the template 'total and deterministic' (their statements: YtpfefbpmchigeaaDoorTotals.lean).
  GIVEN WITH THE SEED: the statements are not yours to turn. If you find one false, say at which input.
  Laid BY PROGRAM, IN A SANDBOX (cutbox-rows.mjs): the forced cells as the released guide's own fill.sh prints them over the translation e58f1608b37bfcfc… (all of the seat's roots in one cut). By AI agents, Wed Nov 11 2026. No macro, syntax, notation, axiom, sorry.
-/
import Derived.Test.YtpfefbpmchigeaaDoorChecked
import GoSem.Claim
import GoSem.ClaimJoined
import GoSem.ClaimMapViews
import Derived.JoinedTies
import Derived.KernelRfl
namespace Go.Proofs.YtpfefbpmchigeaaDoor
/- THE CELL 'sum', in the pinned program and in every row, IS THE sha256 OF THE DUMP (.gsa) THAT YtpfefbpmchigeaaDoorProg.lean LOADS. Nothing in Lean hashes anything: it is a label: what it is worth is what the hold of that sum in a sandbox is worth. -/
noncomputable def Tryd.pinned : Pinned := { name := "ytpfefbpmchigeaadoor", sum := "e58f1608b37bfcfc5508b6e38ae596a5f582a2d29db4007bde3d84b5a08c3397", checked := Tryd.checked }
namespace Rows
def none {H : Type} : Left H := { results := [], args := [] }

/- WHAT THE LISTED PACKAGE-LEVEL VARIABLES READ AS WHEN THE CALL BEGINS. Each datum BY PROGRAM (the guide's laid-datum.mjs) off the statement by which the dump's own 'gosem.cut.vars' lays the variable. In a bare row this is a premise. The card (YtpfefbpmchigeaaDoorCards.lean) ties it to the program's text. -/
def laid_loop_example_musicengine_impl_stepHalves {H : Type} : DataW H := .agg [.lit (.int .i64 0), .lit (.int .i64 2), .lit (.int .i64 4), .lit (.int .i64 5), .lit (.int .i64 7), .lit (.int .i64 9), .lit (.int .i64 11)]

/-- 'laws.FnSectionValid': WHATEVER THE INPUT: true; the input reads as it did. -/
def fnSectionValidSpec : ChangeSpec := { name := "fnSectionValid", vars := ["loop.example/musicengine/impl.stepHalves"], fn := fun _ => fun
  | [d, g1] => { results := [.lit (.bool true)], args := [d], vars := [g1] }
  | _ => none }
def fnSectionValidRow : OpenClaim := { program := "ytpfefbpmchigeaadoor", sum := "e58f1608b37bfcfc5508b6e38ae596a5f582a2d29db4007bde3d84b5a08c3397", func := "loop.example/musicengine/laws.FnSectionValid", spec := "fnSectionValid", named := ["loop.example/musicengine/impl.stepHalves"], apart := false, laid := [("loop.example/musicengine/impl.stepHalves", laid_loop_example_musicengine_impl_stepHalves)] }
def FnSectionValidSaid : Prop := fnSectionValidRow.holds Tryd.pinned (OpenSpec.ofChange fnSectionValidSpec)

/-- ITS FALSE NEIGHBOUR: 'it returns false'. Refute it at one input. -/
def fnSectionValidWrong : ChangeSpec := { name := "fnSectionValid", vars := ["loop.example/musicengine/impl.stepHalves"], fn := fun _ => fun
  | [d, g1] => { results := [.lit (.bool false)], args := [d], vars := [g1] }
  | _ => none }
def FnSectionValidWrongFalsely : Prop := fnSectionValidRow.holds Tryd.pinned (OpenSpec.ofChange fnSectionValidWrong)

/-- 'laws.FnSectionsValid': WHATEVER THE INPUT: true; the input reads as it did. -/
def fnSectionsValidSpec : ChangeSpec := { name := "fnSectionsValid", vars := ["loop.example/musicengine/impl.stepHalves"], fn := fun _ => fun
  | [d, g1] => { results := [.lit (.bool true)], args := [d], vars := [g1] }
  | _ => none }
def fnSectionsValidRow : OpenClaim := { program := "ytpfefbpmchigeaadoor", sum := "e58f1608b37bfcfc5508b6e38ae596a5f582a2d29db4007bde3d84b5a08c3397", func := "loop.example/musicengine/laws.FnSectionsValid", spec := "fnSectionsValid", named := ["loop.example/musicengine/impl.stepHalves"], apart := false, laid := [("loop.example/musicengine/impl.stepHalves", laid_loop_example_musicengine_impl_stepHalves)] }
def FnSectionsValidSaid : Prop := fnSectionsValidRow.holds Tryd.pinned (OpenSpec.ofChange fnSectionsValidSpec)

/-- ITS FALSE NEIGHBOUR: 'it returns false'. Refute it at one input. -/
def fnSectionsValidWrong : ChangeSpec := { name := "fnSectionsValid", vars := ["loop.example/musicengine/impl.stepHalves"], fn := fun _ => fun
  | [d, g1] => { results := [.lit (.bool false)], args := [d], vars := [g1] }
  | _ => none }
def FnSectionsValidWrongFalsely : Prop := fnSectionsValidRow.holds Tryd.pinned (OpenSpec.ofChange fnSectionsValidWrong)

/-- 'laws.FnWrittenBars': WHATEVER THE INPUT: true; the input reads as it did. -/
def fnWrittenBarsSpec : ChangeSpec := { name := "fnWrittenBars", vars := ["loop.example/musicengine/impl.stepHalves"], fn := fun _ => fun
  | [d, g1] => { results := [.lit (.bool true)], args := [d], vars := [g1] }
  | _ => none }
def fnWrittenBarsRow : OpenClaim := { program := "ytpfefbpmchigeaadoor", sum := "e58f1608b37bfcfc5508b6e38ae596a5f582a2d29db4007bde3d84b5a08c3397", func := "loop.example/musicengine/laws.FnWrittenBars", spec := "fnWrittenBars", named := ["loop.example/musicengine/impl.stepHalves"], apart := false, laid := [("loop.example/musicengine/impl.stepHalves", laid_loop_example_musicengine_impl_stepHalves)] }
def FnWrittenBarsSaid : Prop := fnWrittenBarsRow.holds Tryd.pinned (OpenSpec.ofChange fnWrittenBarsSpec)

/-- ITS FALSE NEIGHBOUR: 'it returns false'. Refute it at one input. -/
def fnWrittenBarsWrong : ChangeSpec := { name := "fnWrittenBars", vars := ["loop.example/musicengine/impl.stepHalves"], fn := fun _ => fun
  | [d, g1] => { results := [.lit (.bool false)], args := [d], vars := [g1] }
  | _ => none }
def FnWrittenBarsWrongFalsely : Prop := fnWrittenBarsRow.holds Tryd.pinned (OpenSpec.ofChange fnWrittenBarsWrong)

/-- 'laws.FnPlayedOrder': WHATEVER THE INPUT: true; the input reads as it did. -/
def fnPlayedOrderSpec : ChangeSpec := { name := "fnPlayedOrder", vars := ["loop.example/musicengine/impl.stepHalves"], fn := fun _ => fun
  | [d, g1] => { results := [.lit (.bool true)], args := [d], vars := [g1] }
  | _ => none }
def fnPlayedOrderRow : OpenClaim := { program := "ytpfefbpmchigeaadoor", sum := "e58f1608b37bfcfc5508b6e38ae596a5f582a2d29db4007bde3d84b5a08c3397", func := "loop.example/musicengine/laws.FnPlayedOrder", spec := "fnPlayedOrder", named := ["loop.example/musicengine/impl.stepHalves"], apart := false, laid := [("loop.example/musicengine/impl.stepHalves", laid_loop_example_musicengine_impl_stepHalves)] }
def FnPlayedOrderSaid : Prop := fnPlayedOrderRow.holds Tryd.pinned (OpenSpec.ofChange fnPlayedOrderSpec)

/-- ITS FALSE NEIGHBOUR: 'it returns false'. Refute it at one input. -/
def fnPlayedOrderWrong : ChangeSpec := { name := "fnPlayedOrder", vars := ["loop.example/musicengine/impl.stepHalves"], fn := fun _ => fun
  | [d, g1] => { results := [.lit (.bool false)], args := [d], vars := [g1] }
  | _ => none }
def FnPlayedOrderWrongFalsely : Prop := fnPlayedOrderRow.holds Tryd.pinned (OpenSpec.ofChange fnPlayedOrderWrong)

/-- 'laws.FnUnfoldBars': WHATEVER THE INPUT: true; the input reads as it did. -/
def fnUnfoldBarsSpec : ChangeSpec := { name := "fnUnfoldBars", vars := ["loop.example/musicengine/impl.stepHalves"], fn := fun _ => fun
  | [d, g1] => { results := [.lit (.bool true)], args := [d], vars := [g1] }
  | _ => none }
def fnUnfoldBarsRow : OpenClaim := { program := "ytpfefbpmchigeaadoor", sum := "e58f1608b37bfcfc5508b6e38ae596a5f582a2d29db4007bde3d84b5a08c3397", func := "loop.example/musicengine/laws.FnUnfoldBars", spec := "fnUnfoldBars", named := ["loop.example/musicengine/impl.stepHalves"], apart := false, laid := [("loop.example/musicengine/impl.stepHalves", laid_loop_example_musicengine_impl_stepHalves)] }
def FnUnfoldBarsSaid : Prop := fnUnfoldBarsRow.holds Tryd.pinned (OpenSpec.ofChange fnUnfoldBarsSpec)

/-- ITS FALSE NEIGHBOUR: 'it returns false'. Refute it at one input. -/
def fnUnfoldBarsWrong : ChangeSpec := { name := "fnUnfoldBars", vars := ["loop.example/musicengine/impl.stepHalves"], fn := fun _ => fun
  | [d, g1] => { results := [.lit (.bool false)], args := [d], vars := [g1] }
  | _ => none }
def FnUnfoldBarsWrongFalsely : Prop := fnUnfoldBarsRow.holds Tryd.pinned (OpenSpec.ofChange fnUnfoldBarsWrong)

/-- 'laws.FnSectionsJoin': WHATEVER THE INPUT: true; the input reads as it did. -/
def fnSectionsJoinSpec : ChangeSpec := { name := "fnSectionsJoin", vars := ["loop.example/musicengine/impl.stepHalves"], fn := fun _ => fun
  | [d1, d2, g1] => { results := [.lit (.bool true)], args := [d1, d2], vars := [g1] }
  | _ => none }
def fnSectionsJoinRow : OpenClaim := { program := "ytpfefbpmchigeaadoor", sum := "e58f1608b37bfcfc5508b6e38ae596a5f582a2d29db4007bde3d84b5a08c3397", func := "loop.example/musicengine/laws.FnSectionsJoin", spec := "fnSectionsJoin", named := ["loop.example/musicengine/impl.stepHalves"], apart := false, laid := [("loop.example/musicengine/impl.stepHalves", laid_loop_example_musicengine_impl_stepHalves)] }
def FnSectionsJoinSaid : Prop := fnSectionsJoinRow.holds Tryd.pinned (OpenSpec.ofChange fnSectionsJoinSpec)

/-- ITS FALSE NEIGHBOUR: 'it returns false'. Refute it at one input. -/
def fnSectionsJoinWrong : ChangeSpec := { name := "fnSectionsJoin", vars := ["loop.example/musicengine/impl.stepHalves"], fn := fun _ => fun
  | [d1, d2, g1] => { results := [.lit (.bool false)], args := [d1, d2], vars := [g1] }
  | _ => none }
def FnSectionsJoinWrongFalsely : Prop := fnSectionsJoinRow.holds Tryd.pinned (OpenSpec.ofChange fnSectionsJoinWrong)

/- THE SECOND FORM. 'bulk': how many values and letters a reading holds, each counted each time it is reached (what is shared counts as often as it is met; a slice's spare places count too). A statement '..UptoSaid' is the law's where the arguments, and the package variables that the reading takes, are together of bulk at most 1048576: NARROWER than '..Said'. Prove '..Said' where nothing that the law and all that it calls make is longer than what came in: it says more and counts as full. Else prove '..UptoSaid'. A law counts once. -/
mutual
def uptoBulk {H : Type} : DataW H → Nat
  | .lit (.string bytes) => bytes.length + 1
  | .lit _ => 1
  | .nil => 1
  | .ptr d => uptoBulk d + 1
  | .slice elems spare => uptoBulkAll elems + uptoBulkAll spare + 1
  | .agg parts => uptoBulkAll parts + 1
  | .iface _ d => uptoBulk d + 1
  | .map entries => uptoBulkEntries entries + 1
  | .held _ => 1
def uptoBulkAll {H : Type} : List (DataW H) → Nat
  | [] => 0
  | d :: r => uptoBulk d + uptoBulkAll r
def uptoBulkEntries {H : Type} : List (Lit × DataW H) → Nat
  | [] => 0
  | x :: r => uptoBulkEntry x + uptoBulkEntries r
def uptoBulkEntry {H : Type} : Lit × DataW H → Nat
  | (.string bytes, d) => bytes.length + uptoBulk d + 1
  | (_, d) => uptoBulk d + 1
 end
def uptoSmall : (H : Type) → List (DataW H) → Bool := fun _ ds => decide (uptoBulkAll ds ≤ 1048576)
def OpenSpec.upto (s : _root_.Go.ChangeSpec) : _root_.Go.OpenSpec := { _root_.Go.OpenSpec.ofChange s with cond := some uptoSmall }

/-- 'laws.FnSectionValid', WHERE WHAT IT READS IS OF BULK AT MOST 1048576: true; the input reads as it did. -/
def fnSectionValidUptoRow : OpenClaim := { program := "ytpfefbpmchigeaadoor", sum := "e58f1608b37bfcfc5508b6e38ae596a5f582a2d29db4007bde3d84b5a08c3397", func := "loop.example/musicengine/laws.FnSectionValid", spec := "fnSectionValid", named := ["loop.example/musicengine/impl.stepHalves"], apart := false, laid := [("loop.example/musicengine/impl.stepHalves", laid_loop_example_musicengine_impl_stepHalves)], narrowed := true }
def FnSectionValidUptoSaid : Prop := fnSectionValidUptoRow.holds Tryd.pinned (OpenSpec.upto fnSectionValidSpec)

/-- 'laws.FnSectionsValid', WHERE WHAT IT READS IS OF BULK AT MOST 1048576: true; the input reads as it did. -/
def fnSectionsValidUptoRow : OpenClaim := { program := "ytpfefbpmchigeaadoor", sum := "e58f1608b37bfcfc5508b6e38ae596a5f582a2d29db4007bde3d84b5a08c3397", func := "loop.example/musicengine/laws.FnSectionsValid", spec := "fnSectionsValid", named := ["loop.example/musicengine/impl.stepHalves"], apart := false, laid := [("loop.example/musicengine/impl.stepHalves", laid_loop_example_musicengine_impl_stepHalves)], narrowed := true }
def FnSectionsValidUptoSaid : Prop := fnSectionsValidUptoRow.holds Tryd.pinned (OpenSpec.upto fnSectionsValidSpec)

/-- 'laws.FnWrittenBars', WHERE WHAT IT READS IS OF BULK AT MOST 1048576: true; the input reads as it did. -/
def fnWrittenBarsUptoRow : OpenClaim := { program := "ytpfefbpmchigeaadoor", sum := "e58f1608b37bfcfc5508b6e38ae596a5f582a2d29db4007bde3d84b5a08c3397", func := "loop.example/musicengine/laws.FnWrittenBars", spec := "fnWrittenBars", named := ["loop.example/musicengine/impl.stepHalves"], apart := false, laid := [("loop.example/musicengine/impl.stepHalves", laid_loop_example_musicengine_impl_stepHalves)], narrowed := true }
def FnWrittenBarsUptoSaid : Prop := fnWrittenBarsUptoRow.holds Tryd.pinned (OpenSpec.upto fnWrittenBarsSpec)

/-- 'laws.FnPlayedOrder', WHERE WHAT IT READS IS OF BULK AT MOST 1048576: true; the input reads as it did. -/
def fnPlayedOrderUptoRow : OpenClaim := { program := "ytpfefbpmchigeaadoor", sum := "e58f1608b37bfcfc5508b6e38ae596a5f582a2d29db4007bde3d84b5a08c3397", func := "loop.example/musicengine/laws.FnPlayedOrder", spec := "fnPlayedOrder", named := ["loop.example/musicengine/impl.stepHalves"], apart := false, laid := [("loop.example/musicengine/impl.stepHalves", laid_loop_example_musicengine_impl_stepHalves)], narrowed := true }
def FnPlayedOrderUptoSaid : Prop := fnPlayedOrderUptoRow.holds Tryd.pinned (OpenSpec.upto fnPlayedOrderSpec)

/-- 'laws.FnUnfoldBars', WHERE WHAT IT READS IS OF BULK AT MOST 1048576: true; the input reads as it did. -/
def fnUnfoldBarsUptoRow : OpenClaim := { program := "ytpfefbpmchigeaadoor", sum := "e58f1608b37bfcfc5508b6e38ae596a5f582a2d29db4007bde3d84b5a08c3397", func := "loop.example/musicengine/laws.FnUnfoldBars", spec := "fnUnfoldBars", named := ["loop.example/musicengine/impl.stepHalves"], apart := false, laid := [("loop.example/musicengine/impl.stepHalves", laid_loop_example_musicengine_impl_stepHalves)], narrowed := true }
def FnUnfoldBarsUptoSaid : Prop := fnUnfoldBarsUptoRow.holds Tryd.pinned (OpenSpec.upto fnUnfoldBarsSpec)

/-- 'laws.FnSectionsJoin', WHERE WHAT IT READS IS OF BULK AT MOST 1048576: true; the input reads as it did. -/
def fnSectionsJoinUptoRow : OpenClaim := { program := "ytpfefbpmchigeaadoor", sum := "e58f1608b37bfcfc5508b6e38ae596a5f582a2d29db4007bde3d84b5a08c3397", func := "loop.example/musicengine/laws.FnSectionsJoin", spec := "fnSectionsJoin", named := ["loop.example/musicengine/impl.stepHalves"], apart := false, laid := [("loop.example/musicengine/impl.stepHalves", laid_loop_example_musicengine_impl_stepHalves)], narrowed := true }
def FnSectionsJoinUptoSaid : Prop := fnSectionsJoinUptoRow.holds Tryd.pinned (OpenSpec.upto fnSectionsJoinSpec)

end Rows
end Go.Proofs.YtpfefbpmchigeaaDoor
