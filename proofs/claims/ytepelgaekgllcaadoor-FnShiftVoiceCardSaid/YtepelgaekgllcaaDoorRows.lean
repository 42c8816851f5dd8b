/-
  NARROWER THAN 'FOR EVERY INPUT', by the rows' own cells (each row's printed sentence says how): FnNoteValid: laid · FnVoiceValid: laid · FnVoiceTicks: laid · FnNoteAt: laid · FnJoinTies: laid · FnShiftVoice: laid · FnTurnVoice: laid · FnTurnJoin: laid · FnShiftTwo: laid.
  DERIVED. THE GIVEN ROWS OF THIS SEAT. 9 by the template 'for every input the law returns true; each argument reads behind the call as it read before'; 0 by the template 'total and deterministic' (their statements: YtepelgaekgllcaaDoorTotals.lean).
  GIVEN WITH THE SEED: the statements are not yours to turn. If you find one false, say at which input.
  Laid BY PROGRAM, IN A SANDBOX (cutbox-rows.mjs): the forced cells as the released guide's own fill.sh prints them over the translation c34238d1467378fe… (all of the seat's roots in one cut). By AI agents, Wed Nov 11 2026. No macro, syntax, notation, axiom, sorry.
-/
import Derived.Test.YtepelgaekgllcaaDoorChecked
import GoSem.Claim
import GoSem.ClaimJoined
import GoSem.ClaimMapViews
import Derived.JoinedTies
import Derived.KernelRfl
namespace Go.Proofs.YtepelgaekgllcaaDoor
/- THE CELL 'sum', in the pinned program and in every row, IS THE sha256 OF THE DUMP (.gsa) THAT YtepelgaekgllcaaDoorProg.lean LOADS. Nothing in Lean hashes anything: it is a label: what it is worth is what the hold of that sum in a sandbox is worth. -/
noncomputable def Tryd.pinned : Pinned := { name := "ytepelgaekgllcaadoor", sum := "c34238d1467378fe8e1dafe5259212d942a5c024a9dbca48d68d5246c7c70d7d", checked := Tryd.checked }
namespace Rows
def none {H : Type} : Left H := { results := [], args := [] }

/- WHAT THE LISTED PACKAGE-LEVEL VARIABLES READ AS WHEN THE CALL BEGINS. Each datum BY PROGRAM (the guide's laid-datum.mjs) off the statement by which the dump's own 'gosem.cut.vars' lays the variable. In a bare row this is a premise. The card (YtepelgaekgllcaaDoorCards.lean) ties it to the program's text. -/
def laid_loop_example_musicengine_impl_stepHalves {H : Type} : DataW H := .agg [.lit (.int .i64 0), .lit (.int .i64 2), .lit (.int .i64 4), .lit (.int .i64 5), .lit (.int .i64 7), .lit (.int .i64 9), .lit (.int .i64 11)]

/-- 'laws.FnNoteValid': WHATEVER THE INPUT: true; the input reads as it did. -/
def fnNoteValidSpec : ChangeSpec := { name := "fnNoteValid", vars := ["loop.example/musicengine/impl.stepHalves"], fn := fun _ => fun
  | [d, g1] => { results := [.lit (.bool true)], args := [d], vars := [g1] }
  | _ => none }
def fnNoteValidRow : OpenClaim := { program := "ytepelgaekgllcaadoor", sum := "c34238d1467378fe8e1dafe5259212d942a5c024a9dbca48d68d5246c7c70d7d", func := "loop.example/musicengine/laws.FnNoteValid", spec := "fnNoteValid", named := ["loop.example/musicengine/impl.stepHalves"], apart := false, laid := [("loop.example/musicengine/impl.stepHalves", laid_loop_example_musicengine_impl_stepHalves)] }
def FnNoteValidSaid : Prop := fnNoteValidRow.holds Tryd.pinned (OpenSpec.ofChange fnNoteValidSpec)

/-- ITS FALSE NEIGHBOUR: 'it returns false'. Refute it at one input. -/
def fnNoteValidWrong : ChangeSpec := { name := "fnNoteValid", vars := ["loop.example/musicengine/impl.stepHalves"], fn := fun _ => fun
  | [d, g1] => { results := [.lit (.bool false)], args := [d], vars := [g1] }
  | _ => none }
def FnNoteValidWrongFalsely : Prop := fnNoteValidRow.holds Tryd.pinned (OpenSpec.ofChange fnNoteValidWrong)

/-- 'laws.FnVoiceValid': WHATEVER THE INPUT: true; the input reads as it did. -/
def fnVoiceValidSpec : ChangeSpec := { name := "fnVoiceValid", vars := ["loop.example/musicengine/impl.stepHalves"], fn := fun _ => fun
  | [d, g1] => { results := [.lit (.bool true)], args := [d], vars := [g1] }
  | _ => none }
def fnVoiceValidRow : OpenClaim := { program := "ytepelgaekgllcaadoor", sum := "c34238d1467378fe8e1dafe5259212d942a5c024a9dbca48d68d5246c7c70d7d", func := "loop.example/musicengine/laws.FnVoiceValid", spec := "fnVoiceValid", named := ["loop.example/musicengine/impl.stepHalves"], apart := false, laid := [("loop.example/musicengine/impl.stepHalves", laid_loop_example_musicengine_impl_stepHalves)] }
def FnVoiceValidSaid : Prop := fnVoiceValidRow.holds Tryd.pinned (OpenSpec.ofChange fnVoiceValidSpec)

/-- ITS FALSE NEIGHBOUR: 'it returns false'. Refute it at one input. -/
def fnVoiceValidWrong : ChangeSpec := { name := "fnVoiceValid", vars := ["loop.example/musicengine/impl.stepHalves"], fn := fun _ => fun
  | [d, g1] => { results := [.lit (.bool false)], args := [d], vars := [g1] }
  | _ => none }
def FnVoiceValidWrongFalsely : Prop := fnVoiceValidRow.holds Tryd.pinned (OpenSpec.ofChange fnVoiceValidWrong)

/-- 'laws.FnVoiceTicks': WHATEVER THE INPUT: true; the input reads as it did. -/
def fnVoiceTicksSpec : ChangeSpec := { name := "fnVoiceTicks", vars := ["loop.example/musicengine/impl.stepHalves"], fn := fun _ => fun
  | [d, g1] => { results := [.lit (.bool true)], args := [d], vars := [g1] }
  | _ => none }
def fnVoiceTicksRow : OpenClaim := { program := "ytepelgaekgllcaadoor", sum := "c34238d1467378fe8e1dafe5259212d942a5c024a9dbca48d68d5246c7c70d7d", func := "loop.example/musicengine/laws.FnVoiceTicks", spec := "fnVoiceTicks", named := ["loop.example/musicengine/impl.stepHalves"], apart := false, laid := [("loop.example/musicengine/impl.stepHalves", laid_loop_example_musicengine_impl_stepHalves)] }
def FnVoiceTicksSaid : Prop := fnVoiceTicksRow.holds Tryd.pinned (OpenSpec.ofChange fnVoiceTicksSpec)

/-- ITS FALSE NEIGHBOUR: 'it returns false'. Refute it at one input. -/
def fnVoiceTicksWrong : ChangeSpec := { name := "fnVoiceTicks", vars := ["loop.example/musicengine/impl.stepHalves"], fn := fun _ => fun
  | [d, g1] => { results := [.lit (.bool false)], args := [d], vars := [g1] }
  | _ => none }
def FnVoiceTicksWrongFalsely : Prop := fnVoiceTicksRow.holds Tryd.pinned (OpenSpec.ofChange fnVoiceTicksWrong)

/-- 'laws.FnNoteAt': WHATEVER THE INPUT: true; the input reads as it did. -/
def fnNoteAtSpec : ChangeSpec := { name := "fnNoteAt", vars := ["loop.example/musicengine/impl.stepHalves"], fn := fun _ => fun
  | [d, g1] => { results := [.lit (.bool true)], args := [d], vars := [g1] }
  | _ => none }
def fnNoteAtRow : OpenClaim := { program := "ytepelgaekgllcaadoor", sum := "c34238d1467378fe8e1dafe5259212d942a5c024a9dbca48d68d5246c7c70d7d", func := "loop.example/musicengine/laws.FnNoteAt", spec := "fnNoteAt", named := ["loop.example/musicengine/impl.stepHalves"], apart := false, laid := [("loop.example/musicengine/impl.stepHalves", laid_loop_example_musicengine_impl_stepHalves)] }
def FnNoteAtSaid : Prop := fnNoteAtRow.holds Tryd.pinned (OpenSpec.ofChange fnNoteAtSpec)

/-- ITS FALSE NEIGHBOUR: 'it returns false'. Refute it at one input. -/
def fnNoteAtWrong : ChangeSpec := { name := "fnNoteAt", vars := ["loop.example/musicengine/impl.stepHalves"], fn := fun _ => fun
  | [d, g1] => { results := [.lit (.bool false)], args := [d], vars := [g1] }
  | _ => none }
def FnNoteAtWrongFalsely : Prop := fnNoteAtRow.holds Tryd.pinned (OpenSpec.ofChange fnNoteAtWrong)

/-- 'laws.FnJoinTies': WHATEVER THE INPUT: true; the input reads as it did. -/
def fnJoinTiesSpec : ChangeSpec := { name := "fnJoinTies", vars := ["loop.example/musicengine/impl.stepHalves"], fn := fun _ => fun
  | [d, g1] => { results := [.lit (.bool true)], args := [d], vars := [g1] }
  | _ => none }
def fnJoinTiesRow : OpenClaim := { program := "ytepelgaekgllcaadoor", sum := "c34238d1467378fe8e1dafe5259212d942a5c024a9dbca48d68d5246c7c70d7d", func := "loop.example/musicengine/laws.FnJoinTies", spec := "fnJoinTies", named := ["loop.example/musicengine/impl.stepHalves"], apart := false, laid := [("loop.example/musicengine/impl.stepHalves", laid_loop_example_musicengine_impl_stepHalves)] }
def FnJoinTiesSaid : Prop := fnJoinTiesRow.holds Tryd.pinned (OpenSpec.ofChange fnJoinTiesSpec)

/-- ITS FALSE NEIGHBOUR: 'it returns false'. Refute it at one input. -/
def fnJoinTiesWrong : ChangeSpec := { name := "fnJoinTies", vars := ["loop.example/musicengine/impl.stepHalves"], fn := fun _ => fun
  | [d, g1] => { results := [.lit (.bool false)], args := [d], vars := [g1] }
  | _ => none }
def FnJoinTiesWrongFalsely : Prop := fnJoinTiesRow.holds Tryd.pinned (OpenSpec.ofChange fnJoinTiesWrong)

/-- 'laws.FnShiftVoice': WHATEVER THE INPUT: true; the input reads as it did. -/
def fnShiftVoiceSpec : ChangeSpec := { name := "fnShiftVoice", vars := ["loop.example/musicengine/impl.stepHalves"], fn := fun _ => fun
  | [d, g1] => { results := [.lit (.bool true)], args := [d], vars := [g1] }
  | _ => none }
def fnShiftVoiceRow : OpenClaim := { program := "ytepelgaekgllcaadoor", sum := "c34238d1467378fe8e1dafe5259212d942a5c024a9dbca48d68d5246c7c70d7d", func := "loop.example/musicengine/laws.FnShiftVoice", spec := "fnShiftVoice", named := ["loop.example/musicengine/impl.stepHalves"], apart := false, laid := [("loop.example/musicengine/impl.stepHalves", laid_loop_example_musicengine_impl_stepHalves)] }
def FnShiftVoiceSaid : Prop := fnShiftVoiceRow.holds Tryd.pinned (OpenSpec.ofChange fnShiftVoiceSpec)

/-- ITS FALSE NEIGHBOUR: 'it returns false'. Refute it at one input. -/
def fnShiftVoiceWrong : ChangeSpec := { name := "fnShiftVoice", vars := ["loop.example/musicengine/impl.stepHalves"], fn := fun _ => fun
  | [d, g1] => { results := [.lit (.bool false)], args := [d], vars := [g1] }
  | _ => none }
def FnShiftVoiceWrongFalsely : Prop := fnShiftVoiceRow.holds Tryd.pinned (OpenSpec.ofChange fnShiftVoiceWrong)

/-- 'laws.FnTurnVoice': WHATEVER THE INPUT: true; the input reads as it did. -/
def fnTurnVoiceSpec : ChangeSpec := { name := "fnTurnVoice", vars := ["loop.example/musicengine/impl.stepHalves"], fn := fun _ => fun
  | [d, g1] => { results := [.lit (.bool true)], args := [d], vars := [g1] }
  | _ => none }
def fnTurnVoiceRow : OpenClaim := { program := "ytepelgaekgllcaadoor", sum := "c34238d1467378fe8e1dafe5259212d942a5c024a9dbca48d68d5246c7c70d7d", func := "loop.example/musicengine/laws.FnTurnVoice", spec := "fnTurnVoice", named := ["loop.example/musicengine/impl.stepHalves"], apart := false, laid := [("loop.example/musicengine/impl.stepHalves", laid_loop_example_musicengine_impl_stepHalves)] }
def FnTurnVoiceSaid : Prop := fnTurnVoiceRow.holds Tryd.pinned (OpenSpec.ofChange fnTurnVoiceSpec)

/-- ITS FALSE NEIGHBOUR: 'it returns false'. Refute it at one input. -/
def fnTurnVoiceWrong : ChangeSpec := { name := "fnTurnVoice", vars := ["loop.example/musicengine/impl.stepHalves"], fn := fun _ => fun
  | [d, g1] => { results := [.lit (.bool false)], args := [d], vars := [g1] }
  | _ => none }
def FnTurnVoiceWrongFalsely : Prop := fnTurnVoiceRow.holds Tryd.pinned (OpenSpec.ofChange fnTurnVoiceWrong)

/-- 'laws.FnTurnJoin': WHATEVER THE INPUT: true; the input reads as it did. -/
def fnTurnJoinSpec : ChangeSpec := { name := "fnTurnJoin", vars := ["loop.example/musicengine/impl.stepHalves"], fn := fun _ => fun
  | [d, g1] => { results := [.lit (.bool true)], args := [d], vars := [g1] }
  | _ => none }
def fnTurnJoinRow : OpenClaim := { program := "ytepelgaekgllcaadoor", sum := "c34238d1467378fe8e1dafe5259212d942a5c024a9dbca48d68d5246c7c70d7d", func := "loop.example/musicengine/laws.FnTurnJoin", spec := "fnTurnJoin", named := ["loop.example/musicengine/impl.stepHalves"], apart := false, laid := [("loop.example/musicengine/impl.stepHalves", laid_loop_example_musicengine_impl_stepHalves)] }
def FnTurnJoinSaid : Prop := fnTurnJoinRow.holds Tryd.pinned (OpenSpec.ofChange fnTurnJoinSpec)

/-- ITS FALSE NEIGHBOUR: 'it returns false'. Refute it at one input. -/
def fnTurnJoinWrong : ChangeSpec := { name := "fnTurnJoin", vars := ["loop.example/musicengine/impl.stepHalves"], fn := fun _ => fun
  | [d, g1] => { results := [.lit (.bool false)], args := [d], vars := [g1] }
  | _ => none }
def FnTurnJoinWrongFalsely : Prop := fnTurnJoinRow.holds Tryd.pinned (OpenSpec.ofChange fnTurnJoinWrong)

/-- 'laws.FnShiftTwo': WHATEVER THE INPUT: true; the input reads as it did. -/
def fnShiftTwoSpec : ChangeSpec := { name := "fnShiftTwo", vars := ["loop.example/musicengine/impl.stepHalves"], fn := fun _ => fun
  | [d, g1] => { results := [.lit (.bool true)], args := [d], vars := [g1] }
  | _ => none }
def fnShiftTwoRow : OpenClaim := { program := "ytepelgaekgllcaadoor", sum := "c34238d1467378fe8e1dafe5259212d942a5c024a9dbca48d68d5246c7c70d7d", func := "loop.example/musicengine/laws.FnShiftTwo", spec := "fnShiftTwo", named := ["loop.example/musicengine/impl.stepHalves"], apart := false, laid := [("loop.example/musicengine/impl.stepHalves", laid_loop_example_musicengine_impl_stepHalves)] }
def FnShiftTwoSaid : Prop := fnShiftTwoRow.holds Tryd.pinned (OpenSpec.ofChange fnShiftTwoSpec)

/-- ITS FALSE NEIGHBOUR: 'it returns false'. Refute it at one input. -/
def fnShiftTwoWrong : ChangeSpec := { name := "fnShiftTwo", vars := ["loop.example/musicengine/impl.stepHalves"], fn := fun _ => fun
  | [d, g1] => { results := [.lit (.bool false)], args := [d], vars := [g1] }
  | _ => none }
def FnShiftTwoWrongFalsely : Prop := fnShiftTwoRow.holds Tryd.pinned (OpenSpec.ofChange fnShiftTwoWrong)

/- THE SECOND FORM. 'bulk': how many values and letters a reading holds, each counted each time it is reached (what is shared counts as often as it is met; a slice's spare places count too). A statement '..UptoSaid' is the law's where the arguments, and the package variables that the reading takes, are together of bulk at most 1048576: NARROWER than '..Said'. Prove '..Said' where nothing that the law and all that it calls make is longer than what came in: it says more and counts as full. Else prove '..UptoSaid'. A law counts once. -/
mutual
def uptoBulk {H : Type} : DataW H → Nat
  | .lit (.string bytes) => bytes.length + 1
  | .lit _ => 1
  | .nil => 1
  | .ptr d => uptoBulk d + 1
  | .slice elems spare => uptoBulkAll elems + uptoBulkAll spare + 1
  | .agg parts => uptoBulkAll parts + 1
  | .iface _ d => uptoBulk d + 1
  | .map entries => uptoBulkEntries entries + 1
  | .held _ => 1
def uptoBulkAll {H : Type} : List (DataW H) → Nat
  | [] => 0
  | d :: r => uptoBulk d + uptoBulkAll r
def uptoBulkEntries {H : Type} : List (Lit × DataW H) → Nat
  | [] => 0
  | x :: r => uptoBulkEntry x + uptoBulkEntries r
def uptoBulkEntry {H : Type} : Lit × DataW H → Nat
  | (.string bytes, d) => bytes.length + uptoBulk d + 1
  | (_, d) => uptoBulk d + 1
 end
def uptoSmall : (H : Type) → List (DataW H) → Bool := fun _ ds => decide (uptoBulkAll ds ≤ 1048576)
def OpenSpec.upto (s : _root_.Go.ChangeSpec) : _root_.Go.OpenSpec := { _root_.Go.OpenSpec.ofChange s with cond := some uptoSmall }

/-- 'laws.FnNoteValid', WHERE WHAT IT READS IS OF BULK AT MOST 1048576: true; the input reads as it did. -/
def fnNoteValidUptoRow : OpenClaim := { program := "ytepelgaekgllcaadoor", sum := "c34238d1467378fe8e1dafe5259212d942a5c024a9dbca48d68d5246c7c70d7d", func := "loop.example/musicengine/laws.FnNoteValid", spec := "fnNoteValid", named := ["loop.example/musicengine/impl.stepHalves"], apart := false, laid := [("loop.example/musicengine/impl.stepHalves", laid_loop_example_musicengine_impl_stepHalves)], narrowed := true }
def FnNoteValidUptoSaid : Prop := fnNoteValidUptoRow.holds Tryd.pinned (OpenSpec.upto fnNoteValidSpec)

/-- 'laws.FnVoiceValid', WHERE WHAT IT READS IS OF BULK AT MOST 1048576: true; the input reads as it did. -/
def fnVoiceValidUptoRow : OpenClaim := { program := "ytepelgaekgllcaadoor", sum := "c34238d1467378fe8e1dafe5259212d942a5c024a9dbca48d68d5246c7c70d7d", func := "loop.example/musicengine/laws.FnVoiceValid", spec := "fnVoiceValid", named := ["loop.example/musicengine/impl.stepHalves"], apart := false, laid := [("loop.example/musicengine/impl.stepHalves", laid_loop_example_musicengine_impl_stepHalves)], narrowed := true }
def FnVoiceValidUptoSaid : Prop := fnVoiceValidUptoRow.holds Tryd.pinned (OpenSpec.upto fnVoiceValidSpec)

/-- 'laws.FnVoiceTicks', WHERE WHAT IT READS IS OF BULK AT MOST 1048576: true; the input reads as it did. -/
def fnVoiceTicksUptoRow : OpenClaim := { program := "ytepelgaekgllcaadoor", sum := "c34238d1467378fe8e1dafe5259212d942a5c024a9dbca48d68d5246c7c70d7d", func := "loop.example/musicengine/laws.FnVoiceTicks", spec := "fnVoiceTicks", named := ["loop.example/musicengine/impl.stepHalves"], apart := false, laid := [("loop.example/musicengine/impl.stepHalves", laid_loop_example_musicengine_impl_stepHalves)], narrowed := true }
def FnVoiceTicksUptoSaid : Prop := fnVoiceTicksUptoRow.holds Tryd.pinned (OpenSpec.upto fnVoiceTicksSpec)

/-- 'laws.FnNoteAt', WHERE WHAT IT READS IS OF BULK AT MOST 1048576: true; the input reads as it did. -/
def fnNoteAtUptoRow : OpenClaim := { program := "ytepelgaekgllcaadoor", sum := "c34238d1467378fe8e1dafe5259212d942a5c024a9dbca48d68d5246c7c70d7d", func := "loop.example/musicengine/laws.FnNoteAt", spec := "fnNoteAt", named := ["loop.example/musicengine/impl.stepHalves"], apart := false, laid := [("loop.example/musicengine/impl.stepHalves", laid_loop_example_musicengine_impl_stepHalves)], narrowed := true }
def FnNoteAtUptoSaid : Prop := fnNoteAtUptoRow.holds Tryd.pinned (OpenSpec.upto fnNoteAtSpec)

/-- 'laws.FnJoinTies', WHERE WHAT IT READS IS OF BULK AT MOST 1048576: true; the input reads as it did. -/
def fnJoinTiesUptoRow : OpenClaim := { program := "ytepelgaekgllcaadoor", sum := "c34238d1467378fe8e1dafe5259212d942a5c024a9dbca48d68d5246c7c70d7d", func := "loop.example/musicengine/laws.FnJoinTies", spec := "fnJoinTies", named := ["loop.example/musicengine/impl.stepHalves"], apart := false, laid := [("loop.example/musicengine/impl.stepHalves", laid_loop_example_musicengine_impl_stepHalves)], narrowed := true }
def FnJoinTiesUptoSaid : Prop := fnJoinTiesUptoRow.holds Tryd.pinned (OpenSpec.upto fnJoinTiesSpec)

/-- 'laws.FnShiftVoice', WHERE WHAT IT READS IS OF BULK AT MOST 1048576: true; the input reads as it did. -/
def fnShiftVoiceUptoRow : OpenClaim := { program := "ytepelgaekgllcaadoor", sum := "c34238d1467378fe8e1dafe5259212d942a5c024a9dbca48d68d5246c7c70d7d", func := "loop.example/musicengine/laws.FnShiftVoice", spec := "fnShiftVoice", named := ["loop.example/musicengine/impl.stepHalves"], apart := false, laid := [("loop.example/musicengine/impl.stepHalves", laid_loop_example_musicengine_impl_stepHalves)], narrowed := true }
def FnShiftVoiceUptoSaid : Prop := fnShiftVoiceUptoRow.holds Tryd.pinned (OpenSpec.upto fnShiftVoiceSpec)

/-- 'laws.FnTurnVoice', WHERE WHAT IT READS IS OF BULK AT MOST 1048576: true; the input reads as it did. -/
def fnTurnVoiceUptoRow : OpenClaim := { program := "ytepelgaekgllcaadoor", sum := "c34238d1467378fe8e1dafe5259212d942a5c024a9dbca48d68d5246c7c70d7d", func := "loop.example/musicengine/laws.FnTurnVoice", spec := "fnTurnVoice", named := ["loop.example/musicengine/impl.stepHalves"], apart := false, laid := [("loop.example/musicengine/impl.stepHalves", laid_loop_example_musicengine_impl_stepHalves)], narrowed := true }
def FnTurnVoiceUptoSaid : Prop := fnTurnVoiceUptoRow.holds Tryd.pinned (OpenSpec.upto fnTurnVoiceSpec)

/-- 'laws.FnTurnJoin', WHERE WHAT IT READS IS OF BULK AT MOST 1048576: true; the input reads as it did. -/
def fnTurnJoinUptoRow : OpenClaim := { program := "ytepelgaekgllcaadoor", sum := "c34238d1467378fe8e1dafe5259212d942a5c024a9dbca48d68d5246c7c70d7d", func := "loop.example/musicengine/laws.FnTurnJoin", spec := "fnTurnJoin", named := ["loop.example/musicengine/impl.stepHalves"], apart := false, laid := [("loop.example/musicengine/impl.stepHalves", laid_loop_example_musicengine_impl_stepHalves)], narrowed := true }
def FnTurnJoinUptoSaid : Prop := fnTurnJoinUptoRow.holds Tryd.pinned (OpenSpec.upto fnTurnJoinSpec)

/-- 'laws.FnShiftTwo', WHERE WHAT IT READS IS OF BULK AT MOST 1048576: true; the input reads as it did. -/
def fnShiftTwoUptoRow : OpenClaim := { program := "ytepelgaekgllcaadoor", sum := "c34238d1467378fe8e1dafe5259212d942a5c024a9dbca48d68d5246c7c70d7d", func := "loop.example/musicengine/laws.FnShiftTwo", spec := "fnShiftTwo", named := ["loop.example/musicengine/impl.stepHalves"], apart := false, laid := [("loop.example/musicengine/impl.stepHalves", laid_loop_example_musicengine_impl_stepHalves)], narrowed := true }
def FnShiftTwoUptoSaid : Prop := fnShiftTwoUptoRow.holds Tryd.pinned (OpenSpec.upto fnShiftTwoSpec)

end Rows
end Go.Proofs.YtepelgaekgllcaaDoor
