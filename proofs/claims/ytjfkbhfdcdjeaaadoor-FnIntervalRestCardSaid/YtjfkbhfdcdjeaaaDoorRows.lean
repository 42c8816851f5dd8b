/-
  NARROWER THAN 'FOR EVERY INPUT', by the rows' own cells (each row's printed sentence says how): FnExactIntervalValid: laid · FnExactIntervalOf: laid · FnExactAddInterval: laid · FnExactIntervalQuality: laid · FnExactIntervalBack: laid · FnExactIntervalRest: laid · FnIntervalValid: laid · FnIntervalOf: laid · FnAddInterval: laid · FnIntervalQuality: laid · FnIntervalBack: laid · FnIntervalRest: laid.
  DERIVED. THE GIVEN ROWS OF THIS SEAT. 12 by the template 'for every input the law returns true; each argument reads behind the call as it read before'; 0 by the template 'total and deterministic' (their statements: YtjfkbhfdcdjeaaaDoorTotals.lean).
  GIVEN WITH THE SEED: the statements are not yours to turn. If you find one false, say at which input.
  Laid BY PROGRAM, IN A SANDBOX (cutbox-rows.mjs): the forced cells as the released guide's own fill.sh prints them over the translation c446ac44dfcd2b9a… (all of the seat's roots in one cut). By AI agents, Wed Nov 11 2026. No macro, syntax, notation, axiom, sorry.
-/
import Derived.Test.YtjfkbhfdcdjeaaaDoorChecked
import GoSem.Claim
import GoSem.ClaimJoined
import GoSem.ClaimMapViews
import Derived.JoinedTies
import Derived.KernelRfl
namespace Go.Proofs.YtjfkbhfdcdjeaaaDoor
/- THE CELL 'sum', in the pinned program and in every row, IS THE sha256 OF THE DUMP (.gsa) THAT YtjfkbhfdcdjeaaaDoorProg.lean LOADS. Nothing in Lean hashes anything: it is a label: what it is worth is what the hold of that sum in a sandbox is worth. -/
noncomputable def Tryd.pinned : Pinned := { name := "ytjfkbhfdcdjeaaadoor", sum := "c446ac44dfcd2b9ac843ffb33eda51ebddc3040257699de5318203bbb10da5cd", checked := Tryd.checked }
namespace Rows
def none {H : Type} : Left H := { results := [], args := [] }

/- WHAT THE LISTED PACKAGE-LEVEL VARIABLES READ AS WHEN THE CALL BEGINS. Each datum BY PROGRAM (the guide's laid-datum.mjs) off the statement by which the dump's own 'gosem.cut.vars' lays the variable. In a bare row this is a premise. The card (YtjfkbhfdcdjeaaaDoorCards.lean) ties it to the program's text. -/
def laid_loop_example_musicengine_impl_stepHalves {H : Type} : DataW H := .agg [.lit (.int .i64 0), .lit (.int .i64 2), .lit (.int .i64 4), .lit (.int .i64 5), .lit (.int .i64 7), .lit (.int .i64 9), .lit (.int .i64 11)]

/-- 'laws.FnExactIntervalValid': WHATEVER THE INPUT: true; the input reads as it did. -/
def fnExactIntervalValidSpec : ChangeSpec := { name := "fnExactIntervalValid", vars := ["loop.example/musicengine/impl.stepHalves"], fn := fun _ => fun
  | [d, g1] => { results := [.lit (.bool true)], args := [d], vars := [g1] }
  | _ => none }
def fnExactIntervalValidRow : OpenClaim := { program := "ytjfkbhfdcdjeaaadoor", sum := "c446ac44dfcd2b9ac843ffb33eda51ebddc3040257699de5318203bbb10da5cd", func := "loop.example/musicengine/laws.FnExactIntervalValid", spec := "fnExactIntervalValid", named := ["loop.example/musicengine/impl.stepHalves"], apart := false, laid := [("loop.example/musicengine/impl.stepHalves", laid_loop_example_musicengine_impl_stepHalves)] }
def FnExactIntervalValidSaid : Prop := fnExactIntervalValidRow.holds Tryd.pinned (OpenSpec.ofChange fnExactIntervalValidSpec)

/-- ITS FALSE NEIGHBOUR: 'it returns false'. Refute it at one input. -/
def fnExactIntervalValidWrong : ChangeSpec := { name := "fnExactIntervalValid", vars := ["loop.example/musicengine/impl.stepHalves"], fn := fun _ => fun
  | [d, g1] => { results := [.lit (.bool false)], args := [d], vars := [g1] }
  | _ => none }
def FnExactIntervalValidWrongFalsely : Prop := fnExactIntervalValidRow.holds Tryd.pinned (OpenSpec.ofChange fnExactIntervalValidWrong)

/-- 'laws.FnExactIntervalOf': WHATEVER THE INPUT: true; the input reads as it did. -/
def fnExactIntervalOfSpec : ChangeSpec := { name := "fnExactIntervalOf", vars := ["loop.example/musicengine/impl.stepHalves"], fn := fun _ => fun
  | [d1, d2, g1] => { results := [.lit (.bool true)], args := [d1, d2], vars := [g1] }
  | _ => none }
def fnExactIntervalOfRow : OpenClaim := { program := "ytjfkbhfdcdjeaaadoor", sum := "c446ac44dfcd2b9ac843ffb33eda51ebddc3040257699de5318203bbb10da5cd", func := "loop.example/musicengine/laws.FnExactIntervalOf", spec := "fnExactIntervalOf", named := ["loop.example/musicengine/impl.stepHalves"], apart := false, laid := [("loop.example/musicengine/impl.stepHalves", laid_loop_example_musicengine_impl_stepHalves)] }
def FnExactIntervalOfSaid : Prop := fnExactIntervalOfRow.holds Tryd.pinned (OpenSpec.ofChange fnExactIntervalOfSpec)

/-- ITS FALSE NEIGHBOUR: 'it returns false'. Refute it at one input. -/
def fnExactIntervalOfWrong : ChangeSpec := { name := "fnExactIntervalOf", vars := ["loop.example/musicengine/impl.stepHalves"], fn := fun _ => fun
  | [d1, d2, g1] => { results := [.lit (.bool false)], args := [d1, d2], vars := [g1] }
  | _ => none }
def FnExactIntervalOfWrongFalsely : Prop := fnExactIntervalOfRow.holds Tryd.pinned (OpenSpec.ofChange fnExactIntervalOfWrong)

/-- 'laws.FnExactAddInterval': WHATEVER THE INPUT: true; the input reads as it did. -/
def fnExactAddIntervalSpec : ChangeSpec := { name := "fnExactAddInterval", vars := ["loop.example/musicengine/impl.stepHalves"], fn := fun _ => fun
  | [d1, d2, g1] => { results := [.lit (.bool true)], args := [d1, d2], vars := [g1] }
  | _ => none }
def fnExactAddIntervalRow : OpenClaim := { program := "ytjfkbhfdcdjeaaadoor", sum := "c446ac44dfcd2b9ac843ffb33eda51ebddc3040257699de5318203bbb10da5cd", func := "loop.example/musicengine/laws.FnExactAddInterval", spec := "fnExactAddInterval", named := ["loop.example/musicengine/impl.stepHalves"], apart := false, laid := [("loop.example/musicengine/impl.stepHalves", laid_loop_example_musicengine_impl_stepHalves)] }
def FnExactAddIntervalSaid : Prop := fnExactAddIntervalRow.holds Tryd.pinned (OpenSpec.ofChange fnExactAddIntervalSpec)

/-- ITS FALSE NEIGHBOUR: 'it returns false'. Refute it at one input. -/
def fnExactAddIntervalWrong : ChangeSpec := { name := "fnExactAddInterval", vars := ["loop.example/musicengine/impl.stepHalves"], fn := fun _ => fun
  | [d1, d2, g1] => { results := [.lit (.bool false)], args := [d1, d2], vars := [g1] }
  | _ => none }
def FnExactAddIntervalWrongFalsely : Prop := fnExactAddIntervalRow.holds Tryd.pinned (OpenSpec.ofChange fnExactAddIntervalWrong)

/-- 'laws.FnExactIntervalQuality': WHATEVER THE INPUT: true; the input reads as it did. -/
def fnExactIntervalQualitySpec : ChangeSpec := { name := "fnExactIntervalQuality", vars := ["loop.example/musicengine/impl.stepHalves"], fn := fun _ => fun
  | [d, g1] => { results := [.lit (.bool true)], args := [d], vars := [g1] }
  | _ => none }
def fnExactIntervalQualityRow : OpenClaim := { program := "ytjfkbhfdcdjeaaadoor", sum := "c446ac44dfcd2b9ac843ffb33eda51ebddc3040257699de5318203bbb10da5cd", func := "loop.example/musicengine/laws.FnExactIntervalQuality", spec := "fnExactIntervalQuality", named := ["loop.example/musicengine/impl.stepHalves"], apart := false, laid := [("loop.example/musicengine/impl.stepHalves", laid_loop_example_musicengine_impl_stepHalves)] }
def FnExactIntervalQualitySaid : Prop := fnExactIntervalQualityRow.holds Tryd.pinned (OpenSpec.ofChange fnExactIntervalQualitySpec)

/-- ITS FALSE NEIGHBOUR: 'it returns false'. Refute it at one input. -/
def fnExactIntervalQualityWrong : ChangeSpec := { name := "fnExactIntervalQuality", vars := ["loop.example/musicengine/impl.stepHalves"], fn := fun _ => fun
  | [d, g1] => { results := [.lit (.bool false)], args := [d], vars := [g1] }
  | _ => none }
def FnExactIntervalQualityWrongFalsely : Prop := fnExactIntervalQualityRow.holds Tryd.pinned (OpenSpec.ofChange fnExactIntervalQualityWrong)

/-- 'laws.FnExactIntervalBack': WHATEVER THE INPUT: true; the input reads as it did. -/
def fnExactIntervalBackSpec : ChangeSpec := { name := "fnExactIntervalBack", vars := ["loop.example/musicengine/impl.stepHalves"], fn := fun _ => fun
  | [d, g1] => { results := [.lit (.bool true)], args := [d], vars := [g1] }
  | _ => none }
def fnExactIntervalBackRow : OpenClaim := { program := "ytjfkbhfdcdjeaaadoor", sum := "c446ac44dfcd2b9ac843ffb33eda51ebddc3040257699de5318203bbb10da5cd", func := "loop.example/musicengine/laws.FnExactIntervalBack", spec := "fnExactIntervalBack", named := ["loop.example/musicengine/impl.stepHalves"], apart := false, laid := [("loop.example/musicengine/impl.stepHalves", laid_loop_example_musicengine_impl_stepHalves)] }
def FnExactIntervalBackSaid : Prop := fnExactIntervalBackRow.holds Tryd.pinned (OpenSpec.ofChange fnExactIntervalBackSpec)

/-- ITS FALSE NEIGHBOUR: 'it returns false'. Refute it at one input. -/
def fnExactIntervalBackWrong : ChangeSpec := { name := "fnExactIntervalBack", vars := ["loop.example/musicengine/impl.stepHalves"], fn := fun _ => fun
  | [d, g1] => { results := [.lit (.bool false)], args := [d], vars := [g1] }
  | _ => none }
def FnExactIntervalBackWrongFalsely : Prop := fnExactIntervalBackRow.holds Tryd.pinned (OpenSpec.ofChange fnExactIntervalBackWrong)

/-- 'laws.FnExactIntervalRest': WHATEVER THE INPUT: true; the input reads as it did. -/
def fnExactIntervalRestSpec : ChangeSpec := { name := "fnExactIntervalRest", vars := ["loop.example/musicengine/impl.stepHalves"], fn := fun _ => fun
  | [d, g1] => { results := [.lit (.bool true)], args := [d], vars := [g1] }
  | _ => none }
def fnExactIntervalRestRow : OpenClaim := { program := "ytjfkbhfdcdjeaaadoor", sum := "c446ac44dfcd2b9ac843ffb33eda51ebddc3040257699de5318203bbb10da5cd", func := "loop.example/musicengine/laws.FnExactIntervalRest", spec := "fnExactIntervalRest", named := ["loop.example/musicengine/impl.stepHalves"], apart := false, laid := [("loop.example/musicengine/impl.stepHalves", laid_loop_example_musicengine_impl_stepHalves)] }
def FnExactIntervalRestSaid : Prop := fnExactIntervalRestRow.holds Tryd.pinned (OpenSpec.ofChange fnExactIntervalRestSpec)

/-- ITS FALSE NEIGHBOUR: 'it returns false'. Refute it at one input. -/
def fnExactIntervalRestWrong : ChangeSpec := { name := "fnExactIntervalRest", vars := ["loop.example/musicengine/impl.stepHalves"], fn := fun _ => fun
  | [d, g1] => { results := [.lit (.bool false)], args := [d], vars := [g1] }
  | _ => none }
def FnExactIntervalRestWrongFalsely : Prop := fnExactIntervalRestRow.holds Tryd.pinned (OpenSpec.ofChange fnExactIntervalRestWrong)

/-- 'laws.FnIntervalValid': WHATEVER THE INPUT: true; the input reads as it did. -/
def fnIntervalValidSpec : ChangeSpec := { name := "fnIntervalValid", vars := ["loop.example/musicengine/impl.stepHalves"], fn := fun _ => fun
  | [d, g1] => { results := [.lit (.bool true)], args := [d], vars := [g1] }
  | _ => none }
def fnIntervalValidRow : OpenClaim := { program := "ytjfkbhfdcdjeaaadoor", sum := "c446ac44dfcd2b9ac843ffb33eda51ebddc3040257699de5318203bbb10da5cd", func := "loop.example/musicengine/laws.FnIntervalValid", spec := "fnIntervalValid", named := ["loop.example/musicengine/impl.stepHalves"], apart := false, laid := [("loop.example/musicengine/impl.stepHalves", laid_loop_example_musicengine_impl_stepHalves)] }
def FnIntervalValidSaid : Prop := fnIntervalValidRow.holds Tryd.pinned (OpenSpec.ofChange fnIntervalValidSpec)

/-- ITS FALSE NEIGHBOUR: 'it returns false'. Refute it at one input. -/
def fnIntervalValidWrong : ChangeSpec := { name := "fnIntervalValid", vars := ["loop.example/musicengine/impl.stepHalves"], fn := fun _ => fun
  | [d, g1] => { results := [.lit (.bool false)], args := [d], vars := [g1] }
  | _ => none }
def FnIntervalValidWrongFalsely : Prop := fnIntervalValidRow.holds Tryd.pinned (OpenSpec.ofChange fnIntervalValidWrong)

/-- 'laws.FnIntervalOf': WHATEVER THE INPUT: true; the input reads as it did. -/
def fnIntervalOfSpec : ChangeSpec := { name := "fnIntervalOf", vars := ["loop.example/musicengine/impl.stepHalves"], fn := fun _ => fun
  | [d, g1] => { results := [.lit (.bool true)], args := [d], vars := [g1] }
  | _ => none }
def fnIntervalOfRow : OpenClaim := { program := "ytjfkbhfdcdjeaaadoor", sum := "c446ac44dfcd2b9ac843ffb33eda51ebddc3040257699de5318203bbb10da5cd", func := "loop.example/musicengine/laws.FnIntervalOf", spec := "fnIntervalOf", named := ["loop.example/musicengine/impl.stepHalves"], apart := false, laid := [("loop.example/musicengine/impl.stepHalves", laid_loop_example_musicengine_impl_stepHalves)] }
def FnIntervalOfSaid : Prop := fnIntervalOfRow.holds Tryd.pinned (OpenSpec.ofChange fnIntervalOfSpec)

/-- ITS FALSE NEIGHBOUR: 'it returns false'. Refute it at one input. -/
def fnIntervalOfWrong : ChangeSpec := { name := "fnIntervalOf", vars := ["loop.example/musicengine/impl.stepHalves"], fn := fun _ => fun
  | [d, g1] => { results := [.lit (.bool false)], args := [d], vars := [g1] }
  | _ => none }
def FnIntervalOfWrongFalsely : Prop := fnIntervalOfRow.holds Tryd.pinned (OpenSpec.ofChange fnIntervalOfWrong)

/-- 'laws.FnAddInterval': WHATEVER THE INPUT: true; the input reads as it did. -/
def fnAddIntervalSpec : ChangeSpec := { name := "fnAddInterval", vars := ["loop.example/musicengine/impl.stepHalves"], fn := fun _ => fun
  | [d, g1] => { results := [.lit (.bool true)], args := [d], vars := [g1] }
  | _ => none }
def fnAddIntervalRow : OpenClaim := { program := "ytjfkbhfdcdjeaaadoor", sum := "c446ac44dfcd2b9ac843ffb33eda51ebddc3040257699de5318203bbb10da5cd", func := "loop.example/musicengine/laws.FnAddInterval", spec := "fnAddInterval", named := ["loop.example/musicengine/impl.stepHalves"], apart := false, laid := [("loop.example/musicengine/impl.stepHalves", laid_loop_example_musicengine_impl_stepHalves)] }
def FnAddIntervalSaid : Prop := fnAddIntervalRow.holds Tryd.pinned (OpenSpec.ofChange fnAddIntervalSpec)

/-- ITS FALSE NEIGHBOUR: 'it returns false'. Refute it at one input. -/
def fnAddIntervalWrong : ChangeSpec := { name := "fnAddInterval", vars := ["loop.example/musicengine/impl.stepHalves"], fn := fun _ => fun
  | [d, g1] => { results := [.lit (.bool false)], args := [d], vars := [g1] }
  | _ => none }
def FnAddIntervalWrongFalsely : Prop := fnAddIntervalRow.holds Tryd.pinned (OpenSpec.ofChange fnAddIntervalWrong)

/-- 'laws.FnIntervalQuality': WHATEVER THE INPUT: true; the input reads as it did. -/
def fnIntervalQualitySpec : ChangeSpec := { name := "fnIntervalQuality", vars := ["loop.example/musicengine/impl.stepHalves"], fn := fun _ => fun
  | [d, g1] => { results := [.lit (.bool true)], args := [d], vars := [g1] }
  | _ => none }
def fnIntervalQualityRow : OpenClaim := { program := "ytjfkbhfdcdjeaaadoor", sum := "c446ac44dfcd2b9ac843ffb33eda51ebddc3040257699de5318203bbb10da5cd", func := "loop.example/musicengine/laws.FnIntervalQuality", spec := "fnIntervalQuality", named := ["loop.example/musicengine/impl.stepHalves"], apart := false, laid := [("loop.example/musicengine/impl.stepHalves", laid_loop_example_musicengine_impl_stepHalves)] }
def FnIntervalQualitySaid : Prop := fnIntervalQualityRow.holds Tryd.pinned (OpenSpec.ofChange fnIntervalQualitySpec)

/-- ITS FALSE NEIGHBOUR: 'it returns false'. Refute it at one input. -/
def fnIntervalQualityWrong : ChangeSpec := { name := "fnIntervalQuality", vars := ["loop.example/musicengine/impl.stepHalves"], fn := fun _ => fun
  | [d, g1] => { results := [.lit (.bool false)], args := [d], vars := [g1] }
  | _ => none }
def FnIntervalQualityWrongFalsely : Prop := fnIntervalQualityRow.holds Tryd.pinned (OpenSpec.ofChange fnIntervalQualityWrong)

/-- 'laws.FnIntervalBack': WHATEVER THE INPUT: true; the input reads as it did. -/
def fnIntervalBackSpec : ChangeSpec := { name := "fnIntervalBack", vars := ["loop.example/musicengine/impl.stepHalves"], fn := fun _ => fun
  | [d, g1] => { results := [.lit (.bool true)], args := [d], vars := [g1] }
  | _ => none }
def fnIntervalBackRow : OpenClaim := { program := "ytjfkbhfdcdjeaaadoor", sum := "c446ac44dfcd2b9ac843ffb33eda51ebddc3040257699de5318203bbb10da5cd", func := "loop.example/musicengine/laws.FnIntervalBack", spec := "fnIntervalBack", named := ["loop.example/musicengine/impl.stepHalves"], apart := false, laid := [("loop.example/musicengine/impl.stepHalves", laid_loop_example_musicengine_impl_stepHalves)] }
def FnIntervalBackSaid : Prop := fnIntervalBackRow.holds Tryd.pinned (OpenSpec.ofChange fnIntervalBackSpec)

/-- ITS FALSE NEIGHBOUR: 'it returns false'. Refute it at one input. -/
def fnIntervalBackWrong : ChangeSpec := { name := "fnIntervalBack", vars := ["loop.example/musicengine/impl.stepHalves"], fn := fun _ => fun
  | [d, g1] => { results := [.lit (.bool false)], args := [d], vars := [g1] }
  | _ => none }
def FnIntervalBackWrongFalsely : Prop := fnIntervalBackRow.holds Tryd.pinned (OpenSpec.ofChange fnIntervalBackWrong)

/-- 'laws.FnIntervalRest': WHATEVER THE INPUT: true; the input reads as it did. -/
def fnIntervalRestSpec : ChangeSpec := { name := "fnIntervalRest", vars := ["loop.example/musicengine/impl.stepHalves"], fn := fun _ => fun
  | [d, g1] => { results := [.lit (.bool true)], args := [d], vars := [g1] }
  | _ => none }
def fnIntervalRestRow : OpenClaim := { program := "ytjfkbhfdcdjeaaadoor", sum := "c446ac44dfcd2b9ac843ffb33eda51ebddc3040257699de5318203bbb10da5cd", func := "loop.example/musicengine/laws.FnIntervalRest", spec := "fnIntervalRest", named := ["loop.example/musicengine/impl.stepHalves"], apart := false, laid := [("loop.example/musicengine/impl.stepHalves", laid_loop_example_musicengine_impl_stepHalves)] }
def FnIntervalRestSaid : Prop := fnIntervalRestRow.holds Tryd.pinned (OpenSpec.ofChange fnIntervalRestSpec)

/-- ITS FALSE NEIGHBOUR: 'it returns false'. Refute it at one input. -/
def fnIntervalRestWrong : ChangeSpec := { name := "fnIntervalRest", vars := ["loop.example/musicengine/impl.stepHalves"], fn := fun _ => fun
  | [d, g1] => { results := [.lit (.bool false)], args := [d], vars := [g1] }
  | _ => none }
def FnIntervalRestWrongFalsely : Prop := fnIntervalRestRow.holds Tryd.pinned (OpenSpec.ofChange fnIntervalRestWrong)

/- THE SECOND FORM. 'bulk': how many values and letters a reading holds, each counted each time it is reached (what is shared counts as often as it is met; a slice's spare places count too). A statement '..UptoSaid' is the law's where the arguments, and the package variables that the reading takes, are together of bulk at most 1048576: NARROWER than '..Said'. Prove '..Said' where nothing that the law and all that it calls make is longer than what came in: it says more and counts as full. Else prove '..UptoSaid'. A law counts once. -/
mutual
def uptoBulk {H : Type} : DataW H → Nat
  | .lit (.string bytes) => bytes.length + 1
  | .lit _ => 1
  | .nil => 1
  | .ptr d => uptoBulk d + 1
  | .slice elems spare => uptoBulkAll elems + uptoBulkAll spare + 1
  | .agg parts => uptoBulkAll parts + 1
  | .iface _ d => uptoBulk d + 1
  | .map entries => uptoBulkEntries entries + 1
  | .held _ => 1
def uptoBulkAll {H : Type} : List (DataW H) → Nat
  | [] => 0
  | d :: r => uptoBulk d + uptoBulkAll r
def uptoBulkEntries {H : Type} : List (Lit × DataW H) → Nat
  | [] => 0
  | x :: r => uptoBulkEntry x + uptoBulkEntries r
def uptoBulkEntry {H : Type} : Lit × DataW H → Nat
  | (.string bytes, d) => bytes.length + uptoBulk d + 1
  | (_, d) => uptoBulk d + 1
 end
def uptoSmall : (H : Type) → List (DataW H) → Bool := fun _ ds => decide (uptoBulkAll ds ≤ 1048576)
def OpenSpec.upto (s : _root_.Go.ChangeSpec) : _root_.Go.OpenSpec := { _root_.Go.OpenSpec.ofChange s with cond := some uptoSmall }

/-- 'laws.FnExactIntervalValid', WHERE WHAT IT READS IS OF BULK AT MOST 1048576: true; the input reads as it did. -/
def fnExactIntervalValidUptoRow : OpenClaim := { program := "ytjfkbhfdcdjeaaadoor", sum := "c446ac44dfcd2b9ac843ffb33eda51ebddc3040257699de5318203bbb10da5cd", func := "loop.example/musicengine/laws.FnExactIntervalValid", spec := "fnExactIntervalValid", named := ["loop.example/musicengine/impl.stepHalves"], apart := false, laid := [("loop.example/musicengine/impl.stepHalves", laid_loop_example_musicengine_impl_stepHalves)], narrowed := true }
def FnExactIntervalValidUptoSaid : Prop := fnExactIntervalValidUptoRow.holds Tryd.pinned (OpenSpec.upto fnExactIntervalValidSpec)

/-- 'laws.FnExactIntervalOf', WHERE WHAT IT READS IS OF BULK AT MOST 1048576: true; the input reads as it did. -/
def fnExactIntervalOfUptoRow : OpenClaim := { program := "ytjfkbhfdcdjeaaadoor", sum := "c446ac44dfcd2b9ac843ffb33eda51ebddc3040257699de5318203bbb10da5cd", func := "loop.example/musicengine/laws.FnExactIntervalOf", spec := "fnExactIntervalOf", named := ["loop.example/musicengine/impl.stepHalves"], apart := false, laid := [("loop.example/musicengine/impl.stepHalves", laid_loop_example_musicengine_impl_stepHalves)], narrowed := true }
def FnExactIntervalOfUptoSaid : Prop := fnExactIntervalOfUptoRow.holds Tryd.pinned (OpenSpec.upto fnExactIntervalOfSpec)

/-- 'laws.FnExactAddInterval', WHERE WHAT IT READS IS OF BULK AT MOST 1048576: true; the input reads as it did. -/
def fnExactAddIntervalUptoRow : OpenClaim := { program := "ytjfkbhfdcdjeaaadoor", sum := "c446ac44dfcd2b9ac843ffb33eda51ebddc3040257699de5318203bbb10da5cd", func := "loop.example/musicengine/laws.FnExactAddInterval", spec := "fnExactAddInterval", named := ["loop.example/musicengine/impl.stepHalves"], apart := false, laid := [("loop.example/musicengine/impl.stepHalves", laid_loop_example_musicengine_impl_stepHalves)], narrowed := true }
def FnExactAddIntervalUptoSaid : Prop := fnExactAddIntervalUptoRow.holds Tryd.pinned (OpenSpec.upto fnExactAddIntervalSpec)

/-- 'laws.FnExactIntervalQuality', WHERE WHAT IT READS IS OF BULK AT MOST 1048576: true; the input reads as it did. -/
def fnExactIntervalQualityUptoRow : OpenClaim := { program := "ytjfkbhfdcdjeaaadoor", sum := "c446ac44dfcd2b9ac843ffb33eda51ebddc3040257699de5318203bbb10da5cd", func := "loop.example/musicengine/laws.FnExactIntervalQuality", spec := "fnExactIntervalQuality", named := ["loop.example/musicengine/impl.stepHalves"], apart := false, laid := [("loop.example/musicengine/impl.stepHalves", laid_loop_example_musicengine_impl_stepHalves)], narrowed := true }
def FnExactIntervalQualityUptoSaid : Prop := fnExactIntervalQualityUptoRow.holds Tryd.pinned (OpenSpec.upto fnExactIntervalQualitySpec)

/-- 'laws.FnExactIntervalBack', WHERE WHAT IT READS IS OF BULK AT MOST 1048576: true; the input reads as it did. -/
def fnExactIntervalBackUptoRow : OpenClaim := { program := "ytjfkbhfdcdjeaaadoor", sum := "c446ac44dfcd2b9ac843ffb33eda51ebddc3040257699de5318203bbb10da5cd", func := "loop.example/musicengine/laws.FnExactIntervalBack", spec := "fnExactIntervalBack", named := ["loop.example/musicengine/impl.stepHalves"], apart := false, laid := [("loop.example/musicengine/impl.stepHalves", laid_loop_example_musicengine_impl_stepHalves)], narrowed := true }
def FnExactIntervalBackUptoSaid : Prop := fnExactIntervalBackUptoRow.holds Tryd.pinned (OpenSpec.upto fnExactIntervalBackSpec)

/-- 'laws.FnExactIntervalRest', WHERE WHAT IT READS IS OF BULK AT MOST 1048576: true; the input reads as it did. -/
def fnExactIntervalRestUptoRow : OpenClaim := { program := "ytjfkbhfdcdjeaaadoor", sum := "c446ac44dfcd2b9ac843ffb33eda51ebddc3040257699de5318203bbb10da5cd", func := "loop.example/musicengine/laws.FnExactIntervalRest", spec := "fnExactIntervalRest", named := ["loop.example/musicengine/impl.stepHalves"], apart := false, laid := [("loop.example/musicengine/impl.stepHalves", laid_loop_example_musicengine_impl_stepHalves)], narrowed := true }
def FnExactIntervalRestUptoSaid : Prop := fnExactIntervalRestUptoRow.holds Tryd.pinned (OpenSpec.upto fnExactIntervalRestSpec)

/-- 'laws.FnIntervalValid', WHERE WHAT IT READS IS OF BULK AT MOST 1048576: true; the input reads as it did. -/
def fnIntervalValidUptoRow : OpenClaim := { program := "ytjfkbhfdcdjeaaadoor", sum := "c446ac44dfcd2b9ac843ffb33eda51ebddc3040257699de5318203bbb10da5cd", func := "loop.example/musicengine/laws.FnIntervalValid", spec := "fnIntervalValid", named := ["loop.example/musicengine/impl.stepHalves"], apart := false, laid := [("loop.example/musicengine/impl.stepHalves", laid_loop_example_musicengine_impl_stepHalves)], narrowed := true }
def FnIntervalValidUptoSaid : Prop := fnIntervalValidUptoRow.holds Tryd.pinned (OpenSpec.upto fnIntervalValidSpec)

/-- 'laws.FnIntervalOf', WHERE WHAT IT READS IS OF BULK AT MOST 1048576: true; the input reads as it did. -/
def fnIntervalOfUptoRow : OpenClaim := { program := "ytjfkbhfdcdjeaaadoor", sum := "c446ac44dfcd2b9ac843ffb33eda51ebddc3040257699de5318203bbb10da5cd", func := "loop.example/musicengine/laws.FnIntervalOf", spec := "fnIntervalOf", named := ["loop.example/musicengine/impl.stepHalves"], apart := false, laid := [("loop.example/musicengine/impl.stepHalves", laid_loop_example_musicengine_impl_stepHalves)], narrowed := true }
def FnIntervalOfUptoSaid : Prop := fnIntervalOfUptoRow.holds Tryd.pinned (OpenSpec.upto fnIntervalOfSpec)

/-- 'laws.FnAddInterval', WHERE WHAT IT READS IS OF BULK AT MOST 1048576: true; the input reads as it did. -/
def fnAddIntervalUptoRow : OpenClaim := { program := "ytjfkbhfdcdjeaaadoor", sum := "c446ac44dfcd2b9ac843ffb33eda51ebddc3040257699de5318203bbb10da5cd", func := "loop.example/musicengine/laws.FnAddInterval", spec := "fnAddInterval", named := ["loop.example/musicengine/impl.stepHalves"], apart := false, laid := [("loop.example/musicengine/impl.stepHalves", laid_loop_example_musicengine_impl_stepHalves)], narrowed := true }
def FnAddIntervalUptoSaid : Prop := fnAddIntervalUptoRow.holds Tryd.pinned (OpenSpec.upto fnAddIntervalSpec)

/-- 'laws.FnIntervalQuality', WHERE WHAT IT READS IS OF BULK AT MOST 1048576: true; the input reads as it did. -/
def fnIntervalQualityUptoRow : OpenClaim := { program := "ytjfkbhfdcdjeaaadoor", sum := "c446ac44dfcd2b9ac843ffb33eda51ebddc3040257699de5318203bbb10da5cd", func := "loop.example/musicengine/laws.FnIntervalQuality", spec := "fnIntervalQuality", named := ["loop.example/musicengine/impl.stepHalves"], apart := false, laid := [("loop.example/musicengine/impl.stepHalves", laid_loop_example_musicengine_impl_stepHalves)], narrowed := true }
def FnIntervalQualityUptoSaid : Prop := fnIntervalQualityUptoRow.holds Tryd.pinned (OpenSpec.upto fnIntervalQualitySpec)

/-- 'laws.FnIntervalBack', WHERE WHAT IT READS IS OF BULK AT MOST 1048576: true; the input reads as it did. -/
def fnIntervalBackUptoRow : OpenClaim := { program := "ytjfkbhfdcdjeaaadoor", sum := "c446ac44dfcd2b9ac843ffb33eda51ebddc3040257699de5318203bbb10da5cd", func := "loop.example/musicengine/laws.FnIntervalBack", spec := "fnIntervalBack", named := ["loop.example/musicengine/impl.stepHalves"], apart := false, laid := [("loop.example/musicengine/impl.stepHalves", laid_loop_example_musicengine_impl_stepHalves)], narrowed := true }
def FnIntervalBackUptoSaid : Prop := fnIntervalBackUptoRow.holds Tryd.pinned (OpenSpec.upto fnIntervalBackSpec)

/-- 'laws.FnIntervalRest', WHERE WHAT IT READS IS OF BULK AT MOST 1048576: true; the input reads as it did. -/
def fnIntervalRestUptoRow : OpenClaim := { program := "ytjfkbhfdcdjeaaadoor", sum := "c446ac44dfcd2b9ac843ffb33eda51ebddc3040257699de5318203bbb10da5cd", func := "loop.example/musicengine/laws.FnIntervalRest", spec := "fnIntervalRest", named := ["loop.example/musicengine/impl.stepHalves"], apart := false, laid := [("loop.example/musicengine/impl.stepHalves", laid_loop_example_musicengine_impl_stepHalves)], narrowed := true }
def FnIntervalRestUptoSaid : Prop := fnIntervalRestUptoRow.holds Tryd.pinned (OpenSpec.upto fnIntervalRestSpec)

end Rows
end Go.Proofs.YtjfkbhfdcdjeaaaDoor
