/-
  NARROWER THAN 'FOR EVERY INPUT', by the rows' own cells (each row's printed sentence says how): FnInstrumentValid: laid · FnWriteFor: laid · FnSoundOf: laid · FnRangeFault: laid · FnExactInstrumentValid: laid · FnExactWriteFor: laid · FnExactSoundOf: laid · FnExactRangeFault: laid.
  DERIVED. THE GIVEN ROWS OF THIS SEAT. 8 by the template 'for every input the law returns true; each argument reads behind the call as it read before'; 0 by the template 'total and deterministic' (their statements: YtafnekfddindjaaDoorTotals.lean).
  GIVEN WITH THE SEED: the statements are not yours to turn. If you find one false, say at which input.
  Laid BY PROGRAM, IN A SANDBOX (cutbox-rows.mjs): the forced cells as the released guide's own fill.sh prints them over the translation 6fb975a551dbcf82… (all of the seat's roots in one cut). By AI agents, Wed Nov 11 2026. No macro, syntax, notation, axiom, sorry.
-/
import Derived.Test.YtafnekfddindjaaDoorChecked
import GoSem.Claim
import GoSem.ClaimJoined
import GoSem.ClaimMapViews
import Derived.JoinedTies
import Derived.KernelRfl
namespace Go.Proofs.YtafnekfddindjaaDoor
/- THE CELL 'sum', in the pinned program and in every row, IS THE sha256 OF THE DUMP (.gsa) THAT YtafnekfddindjaaDoorProg.lean LOADS. Nothing in Lean hashes anything: it is a label: what it is worth is what the hold of that sum in a sandbox is worth. -/
noncomputable def Tryd.pinned : Pinned := { name := "ytafnekfddindjaadoor", sum := "6fb975a551dbcf82b336fc20c78a374f25e32b2d7e1699d2584802b532db3687", checked := Tryd.checked }
namespace Rows
def none {H : Type} : Left H := { results := [], args := [] }

/- WHAT THE LISTED PACKAGE-LEVEL VARIABLES READ AS WHEN THE CALL BEGINS. Each datum BY PROGRAM (the guide's laid-datum.mjs) off the statement by which the dump's own 'gosem.cut.vars' lays the variable. In a bare row this is a premise. The card (YtafnekfddindjaaDoorCards.lean) ties it to the program's text. -/
def laid_loop_example_musicengine_impl_stepHalves {H : Type} : DataW H := .agg [.lit (.int .i64 0), .lit (.int .i64 2), .lit (.int .i64 4), .lit (.int .i64 5), .lit (.int .i64 7), .lit (.int .i64 9), .lit (.int .i64 11)]

/-- 'laws.FnInstrumentValid': WHATEVER THE INPUT: true; the input reads as it did. -/
def fnInstrumentValidSpec : ChangeSpec := { name := "fnInstrumentValid", vars := ["loop.example/musicengine/impl.stepHalves"], fn := fun _ => fun
  | [d, g1] => { results := [.lit (.bool true)], args := [d], vars := [g1] }
  | _ => none }
def fnInstrumentValidRow : OpenClaim := { program := "ytafnekfddindjaadoor", sum := "6fb975a551dbcf82b336fc20c78a374f25e32b2d7e1699d2584802b532db3687", func := "loop.example/musicengine/laws.FnInstrumentValid", spec := "fnInstrumentValid", named := ["loop.example/musicengine/impl.stepHalves"], apart := false, laid := [("loop.example/musicengine/impl.stepHalves", laid_loop_example_musicengine_impl_stepHalves)] }
def FnInstrumentValidSaid : Prop := fnInstrumentValidRow.holds Tryd.pinned (OpenSpec.ofChange fnInstrumentValidSpec)

/-- ITS FALSE NEIGHBOUR: 'it returns false'. Refute it at one input. -/
def fnInstrumentValidWrong : ChangeSpec := { name := "fnInstrumentValid", vars := ["loop.example/musicengine/impl.stepHalves"], fn := fun _ => fun
  | [d, g1] => { results := [.lit (.bool false)], args := [d], vars := [g1] }
  | _ => none }
def FnInstrumentValidWrongFalsely : Prop := fnInstrumentValidRow.holds Tryd.pinned (OpenSpec.ofChange fnInstrumentValidWrong)

/-- 'laws.FnWriteFor': WHATEVER THE INPUT: true; the input reads as it did. -/
def fnWriteForSpec : ChangeSpec := { name := "fnWriteFor", vars := ["loop.example/musicengine/impl.stepHalves"], fn := fun _ => fun
  | [d, g1] => { results := [.lit (.bool true)], args := [d], vars := [g1] }
  | _ => none }
def fnWriteForRow : OpenClaim := { program := "ytafnekfddindjaadoor", sum := "6fb975a551dbcf82b336fc20c78a374f25e32b2d7e1699d2584802b532db3687", func := "loop.example/musicengine/laws.FnWriteFor", spec := "fnWriteFor", named := ["loop.example/musicengine/impl.stepHalves"], apart := false, laid := [("loop.example/musicengine/impl.stepHalves", laid_loop_example_musicengine_impl_stepHalves)] }
def FnWriteForSaid : Prop := fnWriteForRow.holds Tryd.pinned (OpenSpec.ofChange fnWriteForSpec)

/-- ITS FALSE NEIGHBOUR: 'it returns false'. Refute it at one input. -/
def fnWriteForWrong : ChangeSpec := { name := "fnWriteFor", vars := ["loop.example/musicengine/impl.stepHalves"], fn := fun _ => fun
  | [d, g1] => { results := [.lit (.bool false)], args := [d], vars := [g1] }
  | _ => none }
def FnWriteForWrongFalsely : Prop := fnWriteForRow.holds Tryd.pinned (OpenSpec.ofChange fnWriteForWrong)

/-- 'laws.FnSoundOf': WHATEVER THE INPUT: true; the input reads as it did. -/
def fnSoundOfSpec : ChangeSpec := { name := "fnSoundOf", vars := ["loop.example/musicengine/impl.stepHalves"], fn := fun _ => fun
  | [d, g1] => { results := [.lit (.bool true)], args := [d], vars := [g1] }
  | _ => none }
def fnSoundOfRow : OpenClaim := { program := "ytafnekfddindjaadoor", sum := "6fb975a551dbcf82b336fc20c78a374f25e32b2d7e1699d2584802b532db3687", func := "loop.example/musicengine/laws.FnSoundOf", spec := "fnSoundOf", named := ["loop.example/musicengine/impl.stepHalves"], apart := false, laid := [("loop.example/musicengine/impl.stepHalves", laid_loop_example_musicengine_impl_stepHalves)] }
def FnSoundOfSaid : Prop := fnSoundOfRow.holds Tryd.pinned (OpenSpec.ofChange fnSoundOfSpec)

/-- ITS FALSE NEIGHBOUR: 'it returns false'. Refute it at one input. -/
def fnSoundOfWrong : ChangeSpec := { name := "fnSoundOf", vars := ["loop.example/musicengine/impl.stepHalves"], fn := fun _ => fun
  | [d, g1] => { results := [.lit (.bool false)], args := [d], vars := [g1] }
  | _ => none }
def FnSoundOfWrongFalsely : Prop := fnSoundOfRow.holds Tryd.pinned (OpenSpec.ofChange fnSoundOfWrong)

/-- 'laws.FnRangeFault': WHATEVER THE INPUT: true; the input reads as it did. -/
def fnRangeFaultSpec : ChangeSpec := { name := "fnRangeFault", vars := ["loop.example/musicengine/impl.stepHalves"], fn := fun _ => fun
  | [d, g1] => { results := [.lit (.bool true)], args := [d], vars := [g1] }
  | _ => none }
def fnRangeFaultRow : OpenClaim := { program := "ytafnekfddindjaadoor", sum := "6fb975a551dbcf82b336fc20c78a374f25e32b2d7e1699d2584802b532db3687", func := "loop.example/musicengine/laws.FnRangeFault", spec := "fnRangeFault", named := ["loop.example/musicengine/impl.stepHalves"], apart := false, laid := [("loop.example/musicengine/impl.stepHalves", laid_loop_example_musicengine_impl_stepHalves)] }
def FnRangeFaultSaid : Prop := fnRangeFaultRow.holds Tryd.pinned (OpenSpec.ofChange fnRangeFaultSpec)

/-- ITS FALSE NEIGHBOUR: 'it returns false'. Refute it at one input. -/
def fnRangeFaultWrong : ChangeSpec := { name := "fnRangeFault", vars := ["loop.example/musicengine/impl.stepHalves"], fn := fun _ => fun
  | [d, g1] => { results := [.lit (.bool false)], args := [d], vars := [g1] }
  | _ => none }
def FnRangeFaultWrongFalsely : Prop := fnRangeFaultRow.holds Tryd.pinned (OpenSpec.ofChange fnRangeFaultWrong)

/-- 'laws.FnExactInstrumentValid': WHATEVER THE INPUT: true; the input reads as it did. -/
def fnExactInstrumentValidSpec : ChangeSpec := { name := "fnExactInstrumentValid", vars := ["loop.example/musicengine/impl.stepHalves"], fn := fun _ => fun
  | [d, g1] => { results := [.lit (.bool true)], args := [d], vars := [g1] }
  | _ => none }
def fnExactInstrumentValidRow : OpenClaim := { program := "ytafnekfddindjaadoor", sum := "6fb975a551dbcf82b336fc20c78a374f25e32b2d7e1699d2584802b532db3687", func := "loop.example/musicengine/laws.FnExactInstrumentValid", spec := "fnExactInstrumentValid", named := ["loop.example/musicengine/impl.stepHalves"], apart := false, laid := [("loop.example/musicengine/impl.stepHalves", laid_loop_example_musicengine_impl_stepHalves)] }
def FnExactInstrumentValidSaid : Prop := fnExactInstrumentValidRow.holds Tryd.pinned (OpenSpec.ofChange fnExactInstrumentValidSpec)

/-- ITS FALSE NEIGHBOUR: 'it returns false'. Refute it at one input. -/
def fnExactInstrumentValidWrong : ChangeSpec := { name := "fnExactInstrumentValid", vars := ["loop.example/musicengine/impl.stepHalves"], fn := fun _ => fun
  | [d, g1] => { results := [.lit (.bool false)], args := [d], vars := [g1] }
  | _ => none }
def FnExactInstrumentValidWrongFalsely : Prop := fnExactInstrumentValidRow.holds Tryd.pinned (OpenSpec.ofChange fnExactInstrumentValidWrong)

/-- 'laws.FnExactWriteFor': WHATEVER THE INPUT: true; the input reads as it did. -/
def fnExactWriteForSpec : ChangeSpec := { name := "fnExactWriteFor", vars := ["loop.example/musicengine/impl.stepHalves"], fn := fun _ => fun
  | [d1, d2, g1] => { results := [.lit (.bool true)], args := [d1, d2], vars := [g1] }
  | _ => none }
def fnExactWriteForRow : OpenClaim := { program := "ytafnekfddindjaadoor", sum := "6fb975a551dbcf82b336fc20c78a374f25e32b2d7e1699d2584802b532db3687", func := "loop.example/musicengine/laws.FnExactWriteFor", spec := "fnExactWriteFor", named := ["loop.example/musicengine/impl.stepHalves"], apart := false, laid := [("loop.example/musicengine/impl.stepHalves", laid_loop_example_musicengine_impl_stepHalves)] }
def FnExactWriteForSaid : Prop := fnExactWriteForRow.holds Tryd.pinned (OpenSpec.ofChange fnExactWriteForSpec)

/-- ITS FALSE NEIGHBOUR: 'it returns false'. Refute it at one input. -/
def fnExactWriteForWrong : ChangeSpec := { name := "fnExactWriteFor", vars := ["loop.example/musicengine/impl.stepHalves"], fn := fun _ => fun
  | [d1, d2, g1] => { results := [.lit (.bool false)], args := [d1, d2], vars := [g1] }
  | _ => none }
def FnExactWriteForWrongFalsely : Prop := fnExactWriteForRow.holds Tryd.pinned (OpenSpec.ofChange fnExactWriteForWrong)

/-- 'laws.FnExactSoundOf': WHATEVER THE INPUT: true; the input reads as it did. -/
def fnExactSoundOfSpec : ChangeSpec := { name := "fnExactSoundOf", vars := ["loop.example/musicengine/impl.stepHalves"], fn := fun _ => fun
  | [d1, d2, g1] => { results := [.lit (.bool true)], args := [d1, d2], vars := [g1] }
  | _ => none }
def fnExactSoundOfRow : OpenClaim := { program := "ytafnekfddindjaadoor", sum := "6fb975a551dbcf82b336fc20c78a374f25e32b2d7e1699d2584802b532db3687", func := "loop.example/musicengine/laws.FnExactSoundOf", spec := "fnExactSoundOf", named := ["loop.example/musicengine/impl.stepHalves"], apart := false, laid := [("loop.example/musicengine/impl.stepHalves", laid_loop_example_musicengine_impl_stepHalves)] }
def FnExactSoundOfSaid : Prop := fnExactSoundOfRow.holds Tryd.pinned (OpenSpec.ofChange fnExactSoundOfSpec)

/-- ITS FALSE NEIGHBOUR: 'it returns false'. Refute it at one input. -/
def fnExactSoundOfWrong : ChangeSpec := { name := "fnExactSoundOf", vars := ["loop.example/musicengine/impl.stepHalves"], fn := fun _ => fun
  | [d1, d2, g1] => { results := [.lit (.bool false)], args := [d1, d2], vars := [g1] }
  | _ => none }
def FnExactSoundOfWrongFalsely : Prop := fnExactSoundOfRow.holds Tryd.pinned (OpenSpec.ofChange fnExactSoundOfWrong)

/-- 'laws.FnExactRangeFault': WHATEVER THE INPUT: true; the input reads as it did. -/
def fnExactRangeFaultSpec : ChangeSpec := { name := "fnExactRangeFault", vars := ["loop.example/musicengine/impl.stepHalves"], fn := fun _ => fun
  | [d1, d2, g1] => { results := [.lit (.bool true)], args := [d1, d2], vars := [g1] }
  | _ => none }
def fnExactRangeFaultRow : OpenClaim := { program := "ytafnekfddindjaadoor", sum := "6fb975a551dbcf82b336fc20c78a374f25e32b2d7e1699d2584802b532db3687", func := "loop.example/musicengine/laws.FnExactRangeFault", spec := "fnExactRangeFault", named := ["loop.example/musicengine/impl.stepHalves"], apart := false, laid := [("loop.example/musicengine/impl.stepHalves", laid_loop_example_musicengine_impl_stepHalves)] }
def FnExactRangeFaultSaid : Prop := fnExactRangeFaultRow.holds Tryd.pinned (OpenSpec.ofChange fnExactRangeFaultSpec)

/-- ITS FALSE NEIGHBOUR: 'it returns false'. Refute it at one input. -/
def fnExactRangeFaultWrong : ChangeSpec := { name := "fnExactRangeFault", vars := ["loop.example/musicengine/impl.stepHalves"], fn := fun _ => fun
  | [d1, d2, g1] => { results := [.lit (.bool false)], args := [d1, d2], vars := [g1] }
  | _ => none }
def FnExactRangeFaultWrongFalsely : Prop := fnExactRangeFaultRow.holds Tryd.pinned (OpenSpec.ofChange fnExactRangeFaultWrong)

/- THE SECOND FORM. 'bulk': how many values and letters a reading holds, each counted each time it is reached (what is shared counts as often as it is met; a slice's spare places count too). A statement '..UptoSaid' is the law's where the arguments, and the package variables that the reading takes, are together of bulk at most 1048576: NARROWER than '..Said'. Prove '..Said' where nothing that the law and all that it calls make is longer than what came in: it says more and counts as full. Else prove '..UptoSaid'. A law counts once. -/
mutual
def uptoBulk {H : Type} : DataW H → Nat
  | .lit (.string bytes) => bytes.length + 1
  | .lit _ => 1
  | .nil => 1
  | .ptr d => uptoBulk d + 1
  | .slice elems spare => uptoBulkAll elems + uptoBulkAll spare + 1
  | .agg parts => uptoBulkAll parts + 1
  | .iface _ d => uptoBulk d + 1
  | .map entries => uptoBulkEntries entries + 1
  | .held _ => 1
def uptoBulkAll {H : Type} : List (DataW H) → Nat
  | [] => 0
  | d :: r => uptoBulk d + uptoBulkAll r
def uptoBulkEntries {H : Type} : List (Lit × DataW H) → Nat
  | [] => 0
  | x :: r => uptoBulkEntry x + uptoBulkEntries r
def uptoBulkEntry {H : Type} : Lit × DataW H → Nat
  | (.string bytes, d) => bytes.length + uptoBulk d + 1
  | (_, d) => uptoBulk d + 1
 end
def uptoSmall : (H : Type) → List (DataW H) → Bool := fun _ ds => decide (uptoBulkAll ds ≤ 1048576)
def OpenSpec.upto (s : _root_.Go.ChangeSpec) : _root_.Go.OpenSpec := { _root_.Go.OpenSpec.ofChange s with cond := some uptoSmall }

/-- 'laws.FnInstrumentValid', WHERE WHAT IT READS IS OF BULK AT MOST 1048576: true; the input reads as it did. -/
def fnInstrumentValidUptoRow : OpenClaim := { program := "ytafnekfddindjaadoor", sum := "6fb975a551dbcf82b336fc20c78a374f25e32b2d7e1699d2584802b532db3687", func := "loop.example/musicengine/laws.FnInstrumentValid", spec := "fnInstrumentValid", named := ["loop.example/musicengine/impl.stepHalves"], apart := false, laid := [("loop.example/musicengine/impl.stepHalves", laid_loop_example_musicengine_impl_stepHalves)], narrowed := true }
def FnInstrumentValidUptoSaid : Prop := fnInstrumentValidUptoRow.holds Tryd.pinned (OpenSpec.upto fnInstrumentValidSpec)

/-- 'laws.FnWriteFor', WHERE WHAT IT READS IS OF BULK AT MOST 1048576: true; the input reads as it did. -/
def fnWriteForUptoRow : OpenClaim := { program := "ytafnekfddindjaadoor", sum := "6fb975a551dbcf82b336fc20c78a374f25e32b2d7e1699d2584802b532db3687", func := "loop.example/musicengine/laws.FnWriteFor", spec := "fnWriteFor", named := ["loop.example/musicengine/impl.stepHalves"], apart := false, laid := [("loop.example/musicengine/impl.stepHalves", laid_loop_example_musicengine_impl_stepHalves)], narrowed := true }
def FnWriteForUptoSaid : Prop := fnWriteForUptoRow.holds Tryd.pinned (OpenSpec.upto fnWriteForSpec)

/-- 'laws.FnSoundOf', WHERE WHAT IT READS IS OF BULK AT MOST 1048576: true; the input reads as it did. -/
def fnSoundOfUptoRow : OpenClaim := { program := "ytafnekfddindjaadoor", sum := "6fb975a551dbcf82b336fc20c78a374f25e32b2d7e1699d2584802b532db3687", func := "loop.example/musicengine/laws.FnSoundOf", spec := "fnSoundOf", named := ["loop.example/musicengine/impl.stepHalves"], apart := false, laid := [("loop.example/musicengine/impl.stepHalves", laid_loop_example_musicengine_impl_stepHalves)], narrowed := true }
def FnSoundOfUptoSaid : Prop := fnSoundOfUptoRow.holds Tryd.pinned (OpenSpec.upto fnSoundOfSpec)

/-- 'laws.FnRangeFault', WHERE WHAT IT READS IS OF BULK AT MOST 1048576: true; the input reads as it did. -/
def fnRangeFaultUptoRow : OpenClaim := { program := "ytafnekfddindjaadoor", sum := "6fb975a551dbcf82b336fc20c78a374f25e32b2d7e1699d2584802b532db3687", func := "loop.example/musicengine/laws.FnRangeFault", spec := "fnRangeFault", named := ["loop.example/musicengine/impl.stepHalves"], apart := false, laid := [("loop.example/musicengine/impl.stepHalves", laid_loop_example_musicengine_impl_stepHalves)], narrowed := true }
def FnRangeFaultUptoSaid : Prop := fnRangeFaultUptoRow.holds Tryd.pinned (OpenSpec.upto fnRangeFaultSpec)

/-- 'laws.FnExactInstrumentValid', WHERE WHAT IT READS IS OF BULK AT MOST 1048576: true; the input reads as it did. -/
def fnExactInstrumentValidUptoRow : OpenClaim := { program := "ytafnekfddindjaadoor", sum := "6fb975a551dbcf82b336fc20c78a374f25e32b2d7e1699d2584802b532db3687", func := "loop.example/musicengine/laws.FnExactInstrumentValid", spec := "fnExactInstrumentValid", named := ["loop.example/musicengine/impl.stepHalves"], apart := false, laid := [("loop.example/musicengine/impl.stepHalves", laid_loop_example_musicengine_impl_stepHalves)], narrowed := true }
def FnExactInstrumentValidUptoSaid : Prop := fnExactInstrumentValidUptoRow.holds Tryd.pinned (OpenSpec.upto fnExactInstrumentValidSpec)

/-- 'laws.FnExactWriteFor', WHERE WHAT IT READS IS OF BULK AT MOST 1048576: true; the input reads as it did. -/
def fnExactWriteForUptoRow : OpenClaim := { program := "ytafnekfddindjaadoor", sum := "6fb975a551dbcf82b336fc20c78a374f25e32b2d7e1699d2584802b532db3687", func := "loop.example/musicengine/laws.FnExactWriteFor", spec := "fnExactWriteFor", named := ["loop.example/musicengine/impl.stepHalves"], apart := false, laid := [("loop.example/musicengine/impl.stepHalves", laid_loop_example_musicengine_impl_stepHalves)], narrowed := true }
def FnExactWriteForUptoSaid : Prop := fnExactWriteForUptoRow.holds Tryd.pinned (OpenSpec.upto fnExactWriteForSpec)

/-- 'laws.FnExactSoundOf', WHERE WHAT IT READS IS OF BULK AT MOST 1048576: true; the input reads as it did. -/
def fnExactSoundOfUptoRow : OpenClaim := { program := "ytafnekfddindjaadoor", sum := "6fb975a551dbcf82b336fc20c78a374f25e32b2d7e1699d2584802b532db3687", func := "loop.example/musicengine/laws.FnExactSoundOf", spec := "fnExactSoundOf", named := ["loop.example/musicengine/impl.stepHalves"], apart := false, laid := [("loop.example/musicengine/impl.stepHalves", laid_loop_example_musicengine_impl_stepHalves)], narrowed := true }
def FnExactSoundOfUptoSaid : Prop := fnExactSoundOfUptoRow.holds Tryd.pinned (OpenSpec.upto fnExactSoundOfSpec)

/-- 'laws.FnExactRangeFault', WHERE WHAT IT READS IS OF BULK AT MOST 1048576: true; the input reads as it did. -/
def fnExactRangeFaultUptoRow : OpenClaim := { program := "ytafnekfddindjaadoor", sum := "6fb975a551dbcf82b336fc20c78a374f25e32b2d7e1699d2584802b532db3687", func := "loop.example/musicengine/laws.FnExactRangeFault", spec := "fnExactRangeFault", named := ["loop.example/musicengine/impl.stepHalves"], apart := false, laid := [("loop.example/musicengine/impl.stepHalves", laid_loop_example_musicengine_impl_stepHalves)], narrowed := true }
def FnExactRangeFaultUptoSaid : Prop := fnExactRangeFaultUptoRow.holds Tryd.pinned (OpenSpec.upto fnExactRangeFaultSpec)

end Rows
end Go.Proofs.YtafnekfddindjaaDoor
