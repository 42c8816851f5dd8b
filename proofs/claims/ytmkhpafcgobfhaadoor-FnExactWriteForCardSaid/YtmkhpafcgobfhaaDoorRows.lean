/-
  NARROWER THAN 'FOR EVERY INPUT', by the rows' own cells (each row's printed sentence says how): FnExactWriteFor: laid · FnExactSoundOf: laid · FnMeetFault: laid · FnCanonOf: laid · FnIsCanon: laid · FnCanonDelays: laid · FnCanonMeet: laid · FnExactCanonOf: laid · FnExactIsCanon: laid · FnExactCanonDelays: laid.
  DERIVED. THE GIVEN ROWS OF THIS SEAT. 10 by the template 'for every input the law returns true; each argument reads behind the call as it read before'; 0 by the template 'total and deterministic' (their statements: YtmkhpafcgobfhaaDoorTotals.lean).
  GIVEN WITH THE SEED: the statements are not yours to turn. If you find one false, say at which input.
  Laid BY PROGRAM, IN A SANDBOX (cutbox-rows.mjs): the forced cells as the released guide's own fill.sh prints them over the translation 979969686fe2d6e4… (all of the seat's roots in one cut). By AI agents, Wed Nov 11 2026. No macro, syntax, notation, axiom, sorry.
-/
import Derived.Test.YtmkhpafcgobfhaaDoorChecked
import GoSem.Claim
import GoSem.ClaimJoined
import GoSem.ClaimMapViews
import Derived.JoinedTies
import Derived.KernelRfl
namespace Go.Proofs.YtmkhpafcgobfhaaDoor
/- THE CELL 'sum', in the pinned program and in every row, IS THE sha256 OF THE DUMP (.gsa) THAT YtmkhpafcgobfhaaDoorProg.lean LOADS. Nothing in Lean hashes anything: it is a label: what it is worth is what the hold of that sum in a sandbox is worth. -/
noncomputable def Tryd.pinned : Pinned := { name := "ytmkhpafcgobfhaadoor", sum := "979969686fe2d6e4eea19a26ef4cd9cb690c1d9f0504f88f0f6eaaadb2fc2eaf", checked := Tryd.checked }
namespace Rows
def none {H : Type} : Left H := { results := [], args := [] }

/- WHAT THE LISTED PACKAGE-LEVEL VARIABLES READ AS WHEN THE CALL BEGINS. Each datum BY PROGRAM (the guide's laid-datum.mjs) off the statement by which the dump's own 'gosem.cut.vars' lays the variable. In a bare row this is a premise. The card (YtmkhpafcgobfhaaDoorCards.lean) ties it to the program's text. -/
def laid_loop_example_musicengine_impl_stepHalves {H : Type} : DataW H := .agg [.lit (.int .i64 0), .lit (.int .i64 2), .lit (.int .i64 4), .lit (.int .i64 5), .lit (.int .i64 7), .lit (.int .i64 9), .lit (.int .i64 11)]

/-- 'laws.FnExactWriteFor': WHATEVER THE INPUT: true; the input reads as it did. -/
def fnExactWriteForSpec : ChangeSpec := { name := "fnExactWriteFor", vars := ["loop.example/musicengine/impl.stepHalves"], fn := fun _ => fun
  | [d1, d2, g1] => { results := [.lit (.bool true)], args := [d1, d2], vars := [g1] }
  | _ => none }
def fnExactWriteForRow : OpenClaim := { program := "ytmkhpafcgobfhaadoor", sum := "979969686fe2d6e4eea19a26ef4cd9cb690c1d9f0504f88f0f6eaaadb2fc2eaf", func := "loop.example/musicengine/laws.FnExactWriteFor", spec := "fnExactWriteFor", named := ["loop.example/musicengine/impl.stepHalves"], apart := false, laid := [("loop.example/musicengine/impl.stepHalves", laid_loop_example_musicengine_impl_stepHalves)] }
def FnExactWriteForSaid : Prop := fnExactWriteForRow.holds Tryd.pinned (OpenSpec.ofChange fnExactWriteForSpec)

/-- ITS FALSE NEIGHBOUR: 'it returns false'. Refute it at one input. -/
def fnExactWriteForWrong : ChangeSpec := { name := "fnExactWriteFor", vars := ["loop.example/musicengine/impl.stepHalves"], fn := fun _ => fun
  | [d1, d2, g1] => { results := [.lit (.bool false)], args := [d1, d2], vars := [g1] }
  | _ => none }
def FnExactWriteForWrongFalsely : Prop := fnExactWriteForRow.holds Tryd.pinned (OpenSpec.ofChange fnExactWriteForWrong)

/-- 'laws.FnExactSoundOf': WHATEVER THE INPUT: true; the input reads as it did. -/
def fnExactSoundOfSpec : ChangeSpec := { name := "fnExactSoundOf", vars := ["loop.example/musicengine/impl.stepHalves"], fn := fun _ => fun
  | [d1, d2, g1] => { results := [.lit (.bool true)], args := [d1, d2], vars := [g1] }
  | _ => none }
def fnExactSoundOfRow : OpenClaim := { program := "ytmkhpafcgobfhaadoor", sum := "979969686fe2d6e4eea19a26ef4cd9cb690c1d9f0504f88f0f6eaaadb2fc2eaf", func := "loop.example/musicengine/laws.FnExactSoundOf", spec := "fnExactSoundOf", named := ["loop.example/musicengine/impl.stepHalves"], apart := false, laid := [("loop.example/musicengine/impl.stepHalves", laid_loop_example_musicengine_impl_stepHalves)] }
def FnExactSoundOfSaid : Prop := fnExactSoundOfRow.holds Tryd.pinned (OpenSpec.ofChange fnExactSoundOfSpec)

/-- ITS FALSE NEIGHBOUR: 'it returns false'. Refute it at one input. -/
def fnExactSoundOfWrong : ChangeSpec := { name := "fnExactSoundOf", vars := ["loop.example/musicengine/impl.stepHalves"], fn := fun _ => fun
  | [d1, d2, g1] => { results := [.lit (.bool false)], args := [d1, d2], vars := [g1] }
  | _ => none }
def FnExactSoundOfWrongFalsely : Prop := fnExactSoundOfRow.holds Tryd.pinned (OpenSpec.ofChange fnExactSoundOfWrong)

/-- 'laws.FnMeetFault': WHATEVER THE INPUT: true; the input reads as it did. -/
def fnMeetFaultSpec : ChangeSpec := { name := "fnMeetFault", vars := ["loop.example/musicengine/impl.stepHalves"], fn := fun _ => fun
  | [d, g1] => { results := [.lit (.bool true)], args := [d], vars := [g1] }
  | _ => none }
def fnMeetFaultRow : OpenClaim := { program := "ytmkhpafcgobfhaadoor", sum := "979969686fe2d6e4eea19a26ef4cd9cb690c1d9f0504f88f0f6eaaadb2fc2eaf", func := "loop.example/musicengine/laws.FnMeetFault", spec := "fnMeetFault", unfollowed := true, recurses := true, named := ["loop.example/musicengine/impl.stepHalves"], apart := false, laid := [("loop.example/musicengine/impl.stepHalves", laid_loop_example_musicengine_impl_stepHalves)] }
def FnMeetFaultSaid : Prop := fnMeetFaultRow.holds Tryd.pinned (OpenSpec.ofChange fnMeetFaultSpec)

/-- ITS FALSE NEIGHBOUR: 'it returns false'. Refute it at one input. -/
def fnMeetFaultWrong : ChangeSpec := { name := "fnMeetFault", vars := ["loop.example/musicengine/impl.stepHalves"], fn := fun _ => fun
  | [d, g1] => { results := [.lit (.bool false)], args := [d], vars := [g1] }
  | _ => none }
def FnMeetFaultWrongFalsely : Prop := fnMeetFaultRow.holds Tryd.pinned (OpenSpec.ofChange fnMeetFaultWrong)

/-- 'laws.FnCanonOf': WHATEVER THE INPUT: true; the input reads as it did. -/
def fnCanonOfSpec : ChangeSpec := { name := "fnCanonOf", vars := ["loop.example/musicengine/impl.stepHalves"], fn := fun _ => fun
  | [d, g1] => { results := [.lit (.bool true)], args := [d], vars := [g1] }
  | _ => none }
def fnCanonOfRow : OpenClaim := { program := "ytmkhpafcgobfhaadoor", sum := "979969686fe2d6e4eea19a26ef4cd9cb690c1d9f0504f88f0f6eaaadb2fc2eaf", func := "loop.example/musicengine/laws.FnCanonOf", spec := "fnCanonOf", named := ["loop.example/musicengine/impl.stepHalves"], apart := false, laid := [("loop.example/musicengine/impl.stepHalves", laid_loop_example_musicengine_impl_stepHalves)] }
def FnCanonOfSaid : Prop := fnCanonOfRow.holds Tryd.pinned (OpenSpec.ofChange fnCanonOfSpec)

/-- ITS FALSE NEIGHBOUR: 'it returns false'. Refute it at one input. -/
def fnCanonOfWrong : ChangeSpec := { name := "fnCanonOf", vars := ["loop.example/musicengine/impl.stepHalves"], fn := fun _ => fun
  | [d, g1] => { results := [.lit (.bool false)], args := [d], vars := [g1] }
  | _ => none }
def FnCanonOfWrongFalsely : Prop := fnCanonOfRow.holds Tryd.pinned (OpenSpec.ofChange fnCanonOfWrong)

/-- 'laws.FnIsCanon': WHATEVER THE INPUT: true; the input reads as it did. -/
def fnIsCanonSpec : ChangeSpec := { name := "fnIsCanon", vars := ["loop.example/musicengine/impl.stepHalves"], fn := fun _ => fun
  | [d, g1] => { results := [.lit (.bool true)], args := [d], vars := [g1] }
  | _ => none }
def fnIsCanonRow : OpenClaim := { program := "ytmkhpafcgobfhaadoor", sum := "979969686fe2d6e4eea19a26ef4cd9cb690c1d9f0504f88f0f6eaaadb2fc2eaf", func := "loop.example/musicengine/laws.FnIsCanon", spec := "fnIsCanon", named := ["loop.example/musicengine/impl.stepHalves"], apart := false, laid := [("loop.example/musicengine/impl.stepHalves", laid_loop_example_musicengine_impl_stepHalves)] }
def FnIsCanonSaid : Prop := fnIsCanonRow.holds Tryd.pinned (OpenSpec.ofChange fnIsCanonSpec)

/-- ITS FALSE NEIGHBOUR: 'it returns false'. Refute it at one input. -/
def fnIsCanonWrong : ChangeSpec := { name := "fnIsCanon", vars := ["loop.example/musicengine/impl.stepHalves"], fn := fun _ => fun
  | [d, g1] => { results := [.lit (.bool false)], args := [d], vars := [g1] }
  | _ => none }
def FnIsCanonWrongFalsely : Prop := fnIsCanonRow.holds Tryd.pinned (OpenSpec.ofChange fnIsCanonWrong)

/-- 'laws.FnCanonDelays': WHATEVER THE INPUT: true; the input reads as it did. -/
def fnCanonDelaysSpec : ChangeSpec := { name := "fnCanonDelays", vars := ["loop.example/musicengine/impl.stepHalves"], fn := fun _ => fun
  | [d, g1] => { results := [.lit (.bool true)], args := [d], vars := [g1] }
  | _ => none }
def fnCanonDelaysRow : OpenClaim := { program := "ytmkhpafcgobfhaadoor", sum := "979969686fe2d6e4eea19a26ef4cd9cb690c1d9f0504f88f0f6eaaadb2fc2eaf", func := "loop.example/musicengine/laws.FnCanonDelays", spec := "fnCanonDelays", unfollowed := true, recurses := true, named := ["loop.example/musicengine/impl.stepHalves"], apart := false, laid := [("loop.example/musicengine/impl.stepHalves", laid_loop_example_musicengine_impl_stepHalves)] }
def FnCanonDelaysSaid : Prop := fnCanonDelaysRow.holds Tryd.pinned (OpenSpec.ofChange fnCanonDelaysSpec)

/-- ITS FALSE NEIGHBOUR: 'it returns false'. Refute it at one input. -/
def fnCanonDelaysWrong : ChangeSpec := { name := "fnCanonDelays", vars := ["loop.example/musicengine/impl.stepHalves"], fn := fun _ => fun
  | [d, g1] => { results := [.lit (.bool false)], args := [d], vars := [g1] }
  | _ => none }
def FnCanonDelaysWrongFalsely : Prop := fnCanonDelaysRow.holds Tryd.pinned (OpenSpec.ofChange fnCanonDelaysWrong)

/-- 'laws.FnCanonMeet': WHATEVER THE INPUT: true; the input reads as it did. -/
def fnCanonMeetSpec : ChangeSpec := { name := "fnCanonMeet", vars := ["loop.example/musicengine/impl.stepHalves"], fn := fun _ => fun
  | [d, g1] => { results := [.lit (.bool true)], args := [d], vars := [g1] }
  | _ => none }
def fnCanonMeetRow : OpenClaim := { program := "ytmkhpafcgobfhaadoor", sum := "979969686fe2d6e4eea19a26ef4cd9cb690c1d9f0504f88f0f6eaaadb2fc2eaf", func := "loop.example/musicengine/laws.FnCanonMeet", spec := "fnCanonMeet", unfollowed := true, recurses := true, named := ["loop.example/musicengine/impl.stepHalves"], apart := false, laid := [("loop.example/musicengine/impl.stepHalves", laid_loop_example_musicengine_impl_stepHalves)] }
def FnCanonMeetSaid : Prop := fnCanonMeetRow.holds Tryd.pinned (OpenSpec.ofChange fnCanonMeetSpec)

/-- ITS FALSE NEIGHBOUR: 'it returns false'. Refute it at one input. -/
def fnCanonMeetWrong : ChangeSpec := { name := "fnCanonMeet", vars := ["loop.example/musicengine/impl.stepHalves"], fn := fun _ => fun
  | [d, g1] => { results := [.lit (.bool false)], args := [d], vars := [g1] }
  | _ => none }
def FnCanonMeetWrongFalsely : Prop := fnCanonMeetRow.holds Tryd.pinned (OpenSpec.ofChange fnCanonMeetWrong)

/-- 'laws.FnExactCanonOf': WHATEVER THE INPUT: true; the input reads as it did. -/
def fnExactCanonOfSpec : ChangeSpec := { name := "fnExactCanonOf", vars := ["loop.example/musicengine/impl.stepHalves"], fn := fun _ => fun
  | [d1, d2, d3, g1] => { results := [.lit (.bool true)], args := [d1, d2, d3], vars := [g1] }
  | _ => none }
def fnExactCanonOfRow : OpenClaim := { program := "ytmkhpafcgobfhaadoor", sum := "979969686fe2d6e4eea19a26ef4cd9cb690c1d9f0504f88f0f6eaaadb2fc2eaf", func := "loop.example/musicengine/laws.FnExactCanonOf", spec := "fnExactCanonOf", named := ["loop.example/musicengine/impl.stepHalves"], apart := false, laid := [("loop.example/musicengine/impl.stepHalves", laid_loop_example_musicengine_impl_stepHalves)] }
def FnExactCanonOfSaid : Prop := fnExactCanonOfRow.holds Tryd.pinned (OpenSpec.ofChange fnExactCanonOfSpec)

/-- ITS FALSE NEIGHBOUR: 'it returns false'. Refute it at one input. -/
def fnExactCanonOfWrong : ChangeSpec := { name := "fnExactCanonOf", vars := ["loop.example/musicengine/impl.stepHalves"], fn := fun _ => fun
  | [d1, d2, d3, g1] => { results := [.lit (.bool false)], args := [d1, d2, d3], vars := [g1] }
  | _ => none }
def FnExactCanonOfWrongFalsely : Prop := fnExactCanonOfRow.holds Tryd.pinned (OpenSpec.ofChange fnExactCanonOfWrong)

/-- 'laws.FnExactIsCanon': WHATEVER THE INPUT: true; the input reads as it did. -/
def fnExactIsCanonSpec : ChangeSpec := { name := "fnExactIsCanon", vars := ["loop.example/musicengine/impl.stepHalves"], fn := fun _ => fun
  | [d1, d2, g1] => { results := [.lit (.bool true)], args := [d1, d2], vars := [g1] }
  | _ => none }
def fnExactIsCanonRow : OpenClaim := { program := "ytmkhpafcgobfhaadoor", sum := "979969686fe2d6e4eea19a26ef4cd9cb690c1d9f0504f88f0f6eaaadb2fc2eaf", func := "loop.example/musicengine/laws.FnExactIsCanon", spec := "fnExactIsCanon", named := ["loop.example/musicengine/impl.stepHalves"], apart := false, laid := [("loop.example/musicengine/impl.stepHalves", laid_loop_example_musicengine_impl_stepHalves)] }
def FnExactIsCanonSaid : Prop := fnExactIsCanonRow.holds Tryd.pinned (OpenSpec.ofChange fnExactIsCanonSpec)

/-- ITS FALSE NEIGHBOUR: 'it returns false'. Refute it at one input. -/
def fnExactIsCanonWrong : ChangeSpec := { name := "fnExactIsCanon", vars := ["loop.example/musicengine/impl.stepHalves"], fn := fun _ => fun
  | [d1, d2, g1] => { results := [.lit (.bool false)], args := [d1, d2], vars := [g1] }
  | _ => none }
def FnExactIsCanonWrongFalsely : Prop := fnExactIsCanonRow.holds Tryd.pinned (OpenSpec.ofChange fnExactIsCanonWrong)

/-- 'laws.FnExactCanonDelays': WHATEVER THE INPUT: true; the input reads as it did. -/
def fnExactCanonDelaysSpec : ChangeSpec := { name := "fnExactCanonDelays", vars := ["loop.example/musicengine/impl.stepHalves"], fn := fun _ => fun
  | [d1, d2, d3, g1] => { results := [.lit (.bool true)], args := [d1, d2, d3], vars := [g1] }
  | _ => none }
def fnExactCanonDelaysRow : OpenClaim := { program := "ytmkhpafcgobfhaadoor", sum := "979969686fe2d6e4eea19a26ef4cd9cb690c1d9f0504f88f0f6eaaadb2fc2eaf", func := "loop.example/musicengine/laws.FnExactCanonDelays", spec := "fnExactCanonDelays", unfollowed := true, recurses := true, named := ["loop.example/musicengine/impl.stepHalves"], apart := false, laid := [("loop.example/musicengine/impl.stepHalves", laid_loop_example_musicengine_impl_stepHalves)] }
def FnExactCanonDelaysSaid : Prop := fnExactCanonDelaysRow.holds Tryd.pinned (OpenSpec.ofChange fnExactCanonDelaysSpec)

/-- ITS FALSE NEIGHBOUR: 'it returns false'. Refute it at one input. -/
def fnExactCanonDelaysWrong : ChangeSpec := { name := "fnExactCanonDelays", vars := ["loop.example/musicengine/impl.stepHalves"], fn := fun _ => fun
  | [d1, d2, d3, g1] => { results := [.lit (.bool false)], args := [d1, d2, d3], vars := [g1] }
  | _ => none }
def FnExactCanonDelaysWrongFalsely : Prop := fnExactCanonDelaysRow.holds Tryd.pinned (OpenSpec.ofChange fnExactCanonDelaysWrong)

/- THE SECOND FORM. 'bulk': how many values and letters a reading holds, each counted each time it is reached (what is shared counts as often as it is met; a slice's spare places count too). A statement '..UptoSaid' is the law's where the arguments, and the package variables that the reading takes, are together of bulk at most 1048576: NARROWER than '..Said'. Prove '..Said' where nothing that the law and all that it calls make is longer than what came in: it says more and counts as full. Else prove '..UptoSaid'. A law counts once. -/
mutual
def uptoBulk {H : Type} : DataW H → Nat
  | .lit (.string bytes) => bytes.length + 1
  | .lit _ => 1
  | .nil => 1
  | .ptr d => uptoBulk d + 1
  | .slice elems spare => uptoBulkAll elems + uptoBulkAll spare + 1
  | .agg parts => uptoBulkAll parts + 1
  | .iface _ d => uptoBulk d + 1
  | .map entries => uptoBulkEntries entries + 1
  | .held _ => 1
def uptoBulkAll {H : Type} : List (DataW H) → Nat
  | [] => 0
  | d :: r => uptoBulk d + uptoBulkAll r
def uptoBulkEntries {H : Type} : List (Lit × DataW H) → Nat
  | [] => 0
  | x :: r => uptoBulkEntry x + uptoBulkEntries r
def uptoBulkEntry {H : Type} : Lit × DataW H → Nat
  | (.string bytes, d) => bytes.length + uptoBulk d + 1
  | (_, d) => uptoBulk d + 1
 end
def uptoSmall : (H : Type) → List (DataW H) → Bool := fun _ ds => decide (uptoBulkAll ds ≤ 1048576)
def OpenSpec.upto (s : _root_.Go.ChangeSpec) : _root_.Go.OpenSpec := { _root_.Go.OpenSpec.ofChange s with cond := some uptoSmall }

/-- 'laws.FnExactWriteFor', WHERE WHAT IT READS IS OF BULK AT MOST 1048576: true; the input reads as it did. -/
def fnExactWriteForUptoRow : OpenClaim := { program := "ytmkhpafcgobfhaadoor", sum := "979969686fe2d6e4eea19a26ef4cd9cb690c1d9f0504f88f0f6eaaadb2fc2eaf", func := "loop.example/musicengine/laws.FnExactWriteFor", spec := "fnExactWriteFor", named := ["loop.example/musicengine/impl.stepHalves"], apart := false, laid := [("loop.example/musicengine/impl.stepHalves", laid_loop_example_musicengine_impl_stepHalves)], narrowed := true }
def FnExactWriteForUptoSaid : Prop := fnExactWriteForUptoRow.holds Tryd.pinned (OpenSpec.upto fnExactWriteForSpec)

/-- 'laws.FnExactSoundOf', WHERE WHAT IT READS IS OF BULK AT MOST 1048576: true; the input reads as it did. -/
def fnExactSoundOfUptoRow : OpenClaim := { program := "ytmkhpafcgobfhaadoor", sum := "979969686fe2d6e4eea19a26ef4cd9cb690c1d9f0504f88f0f6eaaadb2fc2eaf", func := "loop.example/musicengine/laws.FnExactSoundOf", spec := "fnExactSoundOf", named := ["loop.example/musicengine/impl.stepHalves"], apart := false, laid := [("loop.example/musicengine/impl.stepHalves", laid_loop_example_musicengine_impl_stepHalves)], narrowed := true }
def FnExactSoundOfUptoSaid : Prop := fnExactSoundOfUptoRow.holds Tryd.pinned (OpenSpec.upto fnExactSoundOfSpec)

/-- 'laws.FnMeetFault', WHERE WHAT IT READS IS OF BULK AT MOST 1048576: true; the input reads as it did. -/
def fnMeetFaultUptoRow : OpenClaim := { program := "ytmkhpafcgobfhaadoor", sum := "979969686fe2d6e4eea19a26ef4cd9cb690c1d9f0504f88f0f6eaaadb2fc2eaf", func := "loop.example/musicengine/laws.FnMeetFault", spec := "fnMeetFault", unfollowed := true, recurses := true, named := ["loop.example/musicengine/impl.stepHalves"], apart := false, laid := [("loop.example/musicengine/impl.stepHalves", laid_loop_example_musicengine_impl_stepHalves)], narrowed := true }
def FnMeetFaultUptoSaid : Prop := fnMeetFaultUptoRow.holds Tryd.pinned (OpenSpec.upto fnMeetFaultSpec)

/-- 'laws.FnCanonOf', WHERE WHAT IT READS IS OF BULK AT MOST 1048576: true; the input reads as it did. -/
def fnCanonOfUptoRow : OpenClaim := { program := "ytmkhpafcgobfhaadoor", sum := "979969686fe2d6e4eea19a26ef4cd9cb690c1d9f0504f88f0f6eaaadb2fc2eaf", func := "loop.example/musicengine/laws.FnCanonOf", spec := "fnCanonOf", named := ["loop.example/musicengine/impl.stepHalves"], apart := false, laid := [("loop.example/musicengine/impl.stepHalves", laid_loop_example_musicengine_impl_stepHalves)], narrowed := true }
def FnCanonOfUptoSaid : Prop := fnCanonOfUptoRow.holds Tryd.pinned (OpenSpec.upto fnCanonOfSpec)

/-- 'laws.FnIsCanon', WHERE WHAT IT READS IS OF BULK AT MOST 1048576: true; the input reads as it did. -/
def fnIsCanonUptoRow : OpenClaim := { program := "ytmkhpafcgobfhaadoor", sum := "979969686fe2d6e4eea19a26ef4cd9cb690c1d9f0504f88f0f6eaaadb2fc2eaf", func := "loop.example/musicengine/laws.FnIsCanon", spec := "fnIsCanon", named := ["loop.example/musicengine/impl.stepHalves"], apart := false, laid := [("loop.example/musicengine/impl.stepHalves", laid_loop_example_musicengine_impl_stepHalves)], narrowed := true }
def FnIsCanonUptoSaid : Prop := fnIsCanonUptoRow.holds Tryd.pinned (OpenSpec.upto fnIsCanonSpec)

/-- 'laws.FnCanonDelays', WHERE WHAT IT READS IS OF BULK AT MOST 1048576: true; the input reads as it did. -/
def fnCanonDelaysUptoRow : OpenClaim := { program := "ytmkhpafcgobfhaadoor", sum := "979969686fe2d6e4eea19a26ef4cd9cb690c1d9f0504f88f0f6eaaadb2fc2eaf", func := "loop.example/musicengine/laws.FnCanonDelays", spec := "fnCanonDelays", unfollowed := true, recurses := true, named := ["loop.example/musicengine/impl.stepHalves"], apart := false, laid := [("loop.example/musicengine/impl.stepHalves", laid_loop_example_musicengine_impl_stepHalves)], narrowed := true }
def FnCanonDelaysUptoSaid : Prop := fnCanonDelaysUptoRow.holds Tryd.pinned (OpenSpec.upto fnCanonDelaysSpec)

/-- 'laws.FnCanonMeet', WHERE WHAT IT READS IS OF BULK AT MOST 1048576: true; the input reads as it did. -/
def fnCanonMeetUptoRow : OpenClaim := { program := "ytmkhpafcgobfhaadoor", sum := "979969686fe2d6e4eea19a26ef4cd9cb690c1d9f0504f88f0f6eaaadb2fc2eaf", func := "loop.example/musicengine/laws.FnCanonMeet", spec := "fnCanonMeet", unfollowed := true, recurses := true, named := ["loop.example/musicengine/impl.stepHalves"], apart := false, laid := [("loop.example/musicengine/impl.stepHalves", laid_loop_example_musicengine_impl_stepHalves)], narrowed := true }
def FnCanonMeetUptoSaid : Prop := fnCanonMeetUptoRow.holds Tryd.pinned (OpenSpec.upto fnCanonMeetSpec)

/-- 'laws.FnExactCanonOf', WHERE WHAT IT READS IS OF BULK AT MOST 1048576: true; the input reads as it did. -/
def fnExactCanonOfUptoRow : OpenClaim := { program := "ytmkhpafcgobfhaadoor", sum := "979969686fe2d6e4eea19a26ef4cd9cb690c1d9f0504f88f0f6eaaadb2fc2eaf", func := "loop.example/musicengine/laws.FnExactCanonOf", spec := "fnExactCanonOf", named := ["loop.example/musicengine/impl.stepHalves"], apart := false, laid := [("loop.example/musicengine/impl.stepHalves", laid_loop_example_musicengine_impl_stepHalves)], narrowed := true }
def FnExactCanonOfUptoSaid : Prop := fnExactCanonOfUptoRow.holds Tryd.pinned (OpenSpec.upto fnExactCanonOfSpec)

/-- 'laws.FnExactIsCanon', WHERE WHAT IT READS IS OF BULK AT MOST 1048576: true; the input reads as it did. -/
def fnExactIsCanonUptoRow : OpenClaim := { program := "ytmkhpafcgobfhaadoor", sum := "979969686fe2d6e4eea19a26ef4cd9cb690c1d9f0504f88f0f6eaaadb2fc2eaf", func := "loop.example/musicengine/laws.FnExactIsCanon", spec := "fnExactIsCanon", named := ["loop.example/musicengine/impl.stepHalves"], apart := false, laid := [("loop.example/musicengine/impl.stepHalves", laid_loop_example_musicengine_impl_stepHalves)], narrowed := true }
def FnExactIsCanonUptoSaid : Prop := fnExactIsCanonUptoRow.holds Tryd.pinned (OpenSpec.upto fnExactIsCanonSpec)

/-- 'laws.FnExactCanonDelays', WHERE WHAT IT READS IS OF BULK AT MOST 1048576: true; the input reads as it did. -/
def fnExactCanonDelaysUptoRow : OpenClaim := { program := "ytmkhpafcgobfhaadoor", sum := "979969686fe2d6e4eea19a26ef4cd9cb690c1d9f0504f88f0f6eaaadb2fc2eaf", func := "loop.example/musicengine/laws.FnExactCanonDelays", spec := "fnExactCanonDelays", unfollowed := true, recurses := true, named := ["loop.example/musicengine/impl.stepHalves"], apart := false, laid := [("loop.example/musicengine/impl.stepHalves", laid_loop_example_musicengine_impl_stepHalves)], narrowed := true }
def FnExactCanonDelaysUptoSaid : Prop := fnExactCanonDelaysUptoRow.holds Tryd.pinned (OpenSpec.upto fnExactCanonDelaysSpec)

end Rows
end Go.Proofs.YtmkhpafcgobfhaaDoor
