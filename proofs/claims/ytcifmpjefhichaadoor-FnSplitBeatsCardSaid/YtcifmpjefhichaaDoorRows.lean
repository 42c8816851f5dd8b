/-
  NARROWER THAN 'FOR EVERY INPUT', by the rows' own cells (each row's printed sentence says how): FnMeterValid: laid · FnBarTicks: laid · FnBeatAt: laid · FnSplitBars: laid · FnBarCount: laid · FnFillBar: laid · FnSplitBeats: laid · FnExactBarTicks: laid · FnExactBeatAt: laid · FnExactSplitBars: laid · FnExactBarCount: laid · FnExactFillBar: laid.
  DERIVED. THE GIVEN ROWS OF THIS SEAT. 12 by the template 'for every input the law returns true; each argument reads behind the call as it read before'; 0 by the template 'total and deterministic' (their statements: YtcifmpjefhichaaDoorTotals.lean).
  GIVEN WITH THE SEED: the statements are not yours to turn. If you find one false, say at which input.
  Laid BY PROGRAM, IN A SANDBOX (cutbox-rows.mjs): the forced cells as the released guide's own fill.sh prints them over the translation 0e71e24d69da6ea9… (all of the seat's roots in one cut). By AI agents, Wed Nov 11 2026. No macro, syntax, notation, axiom, sorry.
-/
import Derived.Test.YtcifmpjefhichaaDoorChecked
import GoSem.Claim
import GoSem.ClaimJoined
import GoSem.ClaimMapViews
import Derived.JoinedTies
import Derived.KernelRfl
namespace Go.Proofs.YtcifmpjefhichaaDoor
/- THE CELL 'sum', in the pinned program and in every row, IS THE sha256 OF THE DUMP (.gsa) THAT YtcifmpjefhichaaDoorProg.lean LOADS. Nothing in Lean hashes anything: it is a label: what it is worth is what the hold of that sum in a sandbox is worth. -/
noncomputable def Tryd.pinned : Pinned := { name := "ytcifmpjefhichaadoor", sum := "0e71e24d69da6ea99ab5b9fd99bd26c0eaf0ce78ad30f38b639b04fd2f65f00c", checked := Tryd.checked }
namespace Rows
def none {H : Type} : Left H := { results := [], args := [] }

/- WHAT THE LISTED PACKAGE-LEVEL VARIABLES READ AS WHEN THE CALL BEGINS. Each datum BY PROGRAM (the guide's laid-datum.mjs) off the statement by which the dump's own 'gosem.cut.vars' lays the variable. In a bare row this is a premise. The card (YtcifmpjefhichaaDoorCards.lean) ties it to the program's text. -/
def laid_loop_example_musicengine_impl_stepHalves {H : Type} : DataW H := .agg [.lit (.int .i64 0), .lit (.int .i64 2), .lit (.int .i64 4), .lit (.int .i64 5), .lit (.int .i64 7), .lit (.int .i64 9), .lit (.int .i64 11)]
def laid_loop_example_musicengine_impl_valueBases {H : Type} : DataW H := .agg [.lit (.int .i64 1), .lit (.int .i64 2), .lit (.int .i64 4), .lit (.int .i64 8), .lit (.int .i64 16)]
def laid_loop_example_musicengine_impl_dotQuarters {H : Type} : DataW H := .agg [.lit (.int .i64 4), .lit (.int .i64 6), .lit (.int .i64 7)]

/-- 'laws.FnMeterValid': WHATEVER THE INPUT: true; the input reads as it did. -/
def fnMeterValidSpec : ChangeSpec := { name := "fnMeterValid", vars := ["loop.example/musicengine/impl.valueBases", "loop.example/musicengine/impl.stepHalves"], fn := fun _ => fun
  | [d, g1, g2] => { results := [.lit (.bool true)], args := [d], vars := [g1, g2] }
  | _ => none }
def fnMeterValidRow : OpenClaim := { program := "ytcifmpjefhichaadoor", sum := "0e71e24d69da6ea99ab5b9fd99bd26c0eaf0ce78ad30f38b639b04fd2f65f00c", func := "loop.example/musicengine/laws.FnMeterValid", spec := "fnMeterValid", named := ["loop.example/musicengine/impl.valueBases", "loop.example/musicengine/impl.stepHalves"], apart := false, laid := [("loop.example/musicengine/impl.stepHalves", laid_loop_example_musicengine_impl_stepHalves), ("loop.example/musicengine/impl.valueBases", laid_loop_example_musicengine_impl_valueBases)] }
def FnMeterValidSaid : Prop := fnMeterValidRow.holds Tryd.pinned (OpenSpec.ofChange fnMeterValidSpec)

/-- ITS FALSE NEIGHBOUR: 'it returns false'. Refute it at one input. -/
def fnMeterValidWrong : ChangeSpec := { name := "fnMeterValid", vars := ["loop.example/musicengine/impl.valueBases", "loop.example/musicengine/impl.stepHalves"], fn := fun _ => fun
  | [d, g1, g2] => { results := [.lit (.bool false)], args := [d], vars := [g1, g2] }
  | _ => none }
def FnMeterValidWrongFalsely : Prop := fnMeterValidRow.holds Tryd.pinned (OpenSpec.ofChange fnMeterValidWrong)

/-- 'laws.FnBarTicks': WHATEVER THE INPUT: true; the input reads as it did. -/
def fnBarTicksSpec : ChangeSpec := { name := "fnBarTicks", vars := ["loop.example/musicengine/impl.valueBases", "loop.example/musicengine/impl.stepHalves", "loop.example/musicengine/impl.dotQuarters"], fn := fun _ => fun
  | [d, g1, g2, g3] => { results := [.lit (.bool true)], args := [d], vars := [g1, g2, g3] }
  | _ => none }
def fnBarTicksRow : OpenClaim := { program := "ytcifmpjefhichaadoor", sum := "0e71e24d69da6ea99ab5b9fd99bd26c0eaf0ce78ad30f38b639b04fd2f65f00c", func := "loop.example/musicengine/laws.FnBarTicks", spec := "fnBarTicks", named := ["loop.example/musicengine/impl.valueBases", "loop.example/musicengine/impl.stepHalves", "loop.example/musicengine/impl.dotQuarters"], apart := false, laid := [("loop.example/musicengine/impl.stepHalves", laid_loop_example_musicengine_impl_stepHalves), ("loop.example/musicengine/impl.valueBases", laid_loop_example_musicengine_impl_valueBases), ("loop.example/musicengine/impl.dotQuarters", laid_loop_example_musicengine_impl_dotQuarters)] }
def FnBarTicksSaid : Prop := fnBarTicksRow.holds Tryd.pinned (OpenSpec.ofChange fnBarTicksSpec)

/-- ITS FALSE NEIGHBOUR: 'it returns false'. Refute it at one input. -/
def fnBarTicksWrong : ChangeSpec := { name := "fnBarTicks", vars := ["loop.example/musicengine/impl.valueBases", "loop.example/musicengine/impl.stepHalves", "loop.example/musicengine/impl.dotQuarters"], fn := fun _ => fun
  | [d, g1, g2, g3] => { results := [.lit (.bool false)], args := [d], vars := [g1, g2, g3] }
  | _ => none }
def FnBarTicksWrongFalsely : Prop := fnBarTicksRow.holds Tryd.pinned (OpenSpec.ofChange fnBarTicksWrong)

/-- 'laws.FnBeatAt': WHATEVER THE INPUT: true; the input reads as it did. -/
def fnBeatAtSpec : ChangeSpec := { name := "fnBeatAt", vars := ["loop.example/musicengine/impl.valueBases", "loop.example/musicengine/impl.stepHalves"], fn := fun _ => fun
  | [d, g1, g2] => { results := [.lit (.bool true)], args := [d], vars := [g1, g2] }
  | _ => none }
def fnBeatAtRow : OpenClaim := { program := "ytcifmpjefhichaadoor", sum := "0e71e24d69da6ea99ab5b9fd99bd26c0eaf0ce78ad30f38b639b04fd2f65f00c", func := "loop.example/musicengine/laws.FnBeatAt", spec := "fnBeatAt", named := ["loop.example/musicengine/impl.valueBases", "loop.example/musicengine/impl.stepHalves"], apart := false, laid := [("loop.example/musicengine/impl.stepHalves", laid_loop_example_musicengine_impl_stepHalves), ("loop.example/musicengine/impl.valueBases", laid_loop_example_musicengine_impl_valueBases)] }
def FnBeatAtSaid : Prop := fnBeatAtRow.holds Tryd.pinned (OpenSpec.ofChange fnBeatAtSpec)

/-- ITS FALSE NEIGHBOUR: 'it returns false'. Refute it at one input. -/
def fnBeatAtWrong : ChangeSpec := { name := "fnBeatAt", vars := ["loop.example/musicengine/impl.valueBases", "loop.example/musicengine/impl.stepHalves"], fn := fun _ => fun
  | [d, g1, g2] => { results := [.lit (.bool false)], args := [d], vars := [g1, g2] }
  | _ => none }
def FnBeatAtWrongFalsely : Prop := fnBeatAtRow.holds Tryd.pinned (OpenSpec.ofChange fnBeatAtWrong)

/-- 'laws.FnSplitBars': WHATEVER THE INPUT: true; the input reads as it did. -/
def fnSplitBarsSpec : ChangeSpec := { name := "fnSplitBars", vars := ["loop.example/musicengine/impl.valueBases", "loop.example/musicengine/impl.stepHalves"], fn := fun _ => fun
  | [d, g1, g2] => { results := [.lit (.bool true)], args := [d], vars := [g1, g2] }
  | _ => none }
def fnSplitBarsRow : OpenClaim := { program := "ytcifmpjefhichaadoor", sum := "0e71e24d69da6ea99ab5b9fd99bd26c0eaf0ce78ad30f38b639b04fd2f65f00c", func := "loop.example/musicengine/laws.FnSplitBars", spec := "fnSplitBars", unfollowed := true, recurses := true, named := ["loop.example/musicengine/impl.valueBases", "loop.example/musicengine/impl.stepHalves"], apart := false, laid := [("loop.example/musicengine/impl.stepHalves", laid_loop_example_musicengine_impl_stepHalves), ("loop.example/musicengine/impl.valueBases", laid_loop_example_musicengine_impl_valueBases)] }
def FnSplitBarsSaid : Prop := fnSplitBarsRow.holds Tryd.pinned (OpenSpec.ofChange fnSplitBarsSpec)

/-- ITS FALSE NEIGHBOUR: 'it returns false'. Refute it at one input. -/
def fnSplitBarsWrong : ChangeSpec := { name := "fnSplitBars", vars := ["loop.example/musicengine/impl.valueBases", "loop.example/musicengine/impl.stepHalves"], fn := fun _ => fun
  | [d, g1, g2] => { results := [.lit (.bool false)], args := [d], vars := [g1, g2] }
  | _ => none }
def FnSplitBarsWrongFalsely : Prop := fnSplitBarsRow.holds Tryd.pinned (OpenSpec.ofChange fnSplitBarsWrong)

/-- 'laws.FnBarCount': WHATEVER THE INPUT: true; the input reads as it did. -/
def fnBarCountSpec : ChangeSpec := { name := "fnBarCount", vars := ["loop.example/musicengine/impl.valueBases", "loop.example/musicengine/impl.stepHalves"], fn := fun _ => fun
  | [d, g1, g2] => { results := [.lit (.bool true)], args := [d], vars := [g1, g2] }
  | _ => none }
def fnBarCountRow : OpenClaim := { program := "ytcifmpjefhichaadoor", sum := "0e71e24d69da6ea99ab5b9fd99bd26c0eaf0ce78ad30f38b639b04fd2f65f00c", func := "loop.example/musicengine/laws.FnBarCount", spec := "fnBarCount", named := ["loop.example/musicengine/impl.valueBases", "loop.example/musicengine/impl.stepHalves"], apart := false, laid := [("loop.example/musicengine/impl.stepHalves", laid_loop_example_musicengine_impl_stepHalves), ("loop.example/musicengine/impl.valueBases", laid_loop_example_musicengine_impl_valueBases)] }
def FnBarCountSaid : Prop := fnBarCountRow.holds Tryd.pinned (OpenSpec.ofChange fnBarCountSpec)

/-- ITS FALSE NEIGHBOUR: 'it returns false'. Refute it at one input. -/
def fnBarCountWrong : ChangeSpec := { name := "fnBarCount", vars := ["loop.example/musicengine/impl.valueBases", "loop.example/musicengine/impl.stepHalves"], fn := fun _ => fun
  | [d, g1, g2] => { results := [.lit (.bool false)], args := [d], vars := [g1, g2] }
  | _ => none }
def FnBarCountWrongFalsely : Prop := fnBarCountRow.holds Tryd.pinned (OpenSpec.ofChange fnBarCountWrong)

/-- 'laws.FnFillBar': WHATEVER THE INPUT: true; the input reads as it did. -/
def fnFillBarSpec : ChangeSpec := { name := "fnFillBar", vars := ["loop.example/musicengine/impl.valueBases", "loop.example/musicengine/impl.stepHalves"], fn := fun _ => fun
  | [d, g1, g2] => { results := [.lit (.bool true)], args := [d], vars := [g1, g2] }
  | _ => none }
def fnFillBarRow : OpenClaim := { program := "ytcifmpjefhichaadoor", sum := "0e71e24d69da6ea99ab5b9fd99bd26c0eaf0ce78ad30f38b639b04fd2f65f00c", func := "loop.example/musicengine/laws.FnFillBar", spec := "fnFillBar", named := ["loop.example/musicengine/impl.valueBases", "loop.example/musicengine/impl.stepHalves"], apart := false, laid := [("loop.example/musicengine/impl.stepHalves", laid_loop_example_musicengine_impl_stepHalves), ("loop.example/musicengine/impl.valueBases", laid_loop_example_musicengine_impl_valueBases)] }
def FnFillBarSaid : Prop := fnFillBarRow.holds Tryd.pinned (OpenSpec.ofChange fnFillBarSpec)

/-- ITS FALSE NEIGHBOUR: 'it returns false'. Refute it at one input. -/
def fnFillBarWrong : ChangeSpec := { name := "fnFillBar", vars := ["loop.example/musicengine/impl.valueBases", "loop.example/musicengine/impl.stepHalves"], fn := fun _ => fun
  | [d, g1, g2] => { results := [.lit (.bool false)], args := [d], vars := [g1, g2] }
  | _ => none }
def FnFillBarWrongFalsely : Prop := fnFillBarRow.holds Tryd.pinned (OpenSpec.ofChange fnFillBarWrong)

/-- 'laws.FnSplitBeats': WHATEVER THE INPUT: true; the input reads as it did. -/
def fnSplitBeatsSpec : ChangeSpec := { name := "fnSplitBeats", vars := ["loop.example/musicengine/impl.valueBases", "loop.example/musicengine/impl.stepHalves"], fn := fun _ => fun
  | [d, g1, g2] => { results := [.lit (.bool true)], args := [d], vars := [g1, g2] }
  | _ => none }
def fnSplitBeatsRow : OpenClaim := { program := "ytcifmpjefhichaadoor", sum := "0e71e24d69da6ea99ab5b9fd99bd26c0eaf0ce78ad30f38b639b04fd2f65f00c", func := "loop.example/musicengine/laws.FnSplitBeats", spec := "fnSplitBeats", unfollowed := true, recurses := true, named := ["loop.example/musicengine/impl.valueBases", "loop.example/musicengine/impl.stepHalves"], apart := false, laid := [("loop.example/musicengine/impl.stepHalves", laid_loop_example_musicengine_impl_stepHalves), ("loop.example/musicengine/impl.valueBases", laid_loop_example_musicengine_impl_valueBases)] }
def FnSplitBeatsSaid : Prop := fnSplitBeatsRow.holds Tryd.pinned (OpenSpec.ofChange fnSplitBeatsSpec)

/-- ITS FALSE NEIGHBOUR: 'it returns false'. Refute it at one input. -/
def fnSplitBeatsWrong : ChangeSpec := { name := "fnSplitBeats", vars := ["loop.example/musicengine/impl.valueBases", "loop.example/musicengine/impl.stepHalves"], fn := fun _ => fun
  | [d, g1, g2] => { results := [.lit (.bool false)], args := [d], vars := [g1, g2] }
  | _ => none }
def FnSplitBeatsWrongFalsely : Prop := fnSplitBeatsRow.holds Tryd.pinned (OpenSpec.ofChange fnSplitBeatsWrong)

/-- 'laws.FnExactBarTicks': WHATEVER THE INPUT: true; the input reads as it did. -/
def fnExactBarTicksSpec : ChangeSpec := { name := "fnExactBarTicks", vars := ["loop.example/musicengine/impl.valueBases"], fn := fun _ => fun
  | [d, g1] => { results := [.lit (.bool true)], args := [d], vars := [g1] }
  | _ => none }
def fnExactBarTicksRow : OpenClaim := { program := "ytcifmpjefhichaadoor", sum := "0e71e24d69da6ea99ab5b9fd99bd26c0eaf0ce78ad30f38b639b04fd2f65f00c", func := "loop.example/musicengine/laws.FnExactBarTicks", spec := "fnExactBarTicks", named := ["loop.example/musicengine/impl.valueBases"], apart := false, laid := [("loop.example/musicengine/impl.valueBases", laid_loop_example_musicengine_impl_valueBases)] }
def FnExactBarTicksSaid : Prop := fnExactBarTicksRow.holds Tryd.pinned (OpenSpec.ofChange fnExactBarTicksSpec)

/-- ITS FALSE NEIGHBOUR: 'it returns false'. Refute it at one input. -/
def fnExactBarTicksWrong : ChangeSpec := { name := "fnExactBarTicks", vars := ["loop.example/musicengine/impl.valueBases"], fn := fun _ => fun
  | [d, g1] => { results := [.lit (.bool false)], args := [d], vars := [g1] }
  | _ => none }
def FnExactBarTicksWrongFalsely : Prop := fnExactBarTicksRow.holds Tryd.pinned (OpenSpec.ofChange fnExactBarTicksWrong)

/-- 'laws.FnExactBeatAt': WHATEVER THE INPUT: true; the input reads as it did. -/
def fnExactBeatAtSpec : ChangeSpec := { name := "fnExactBeatAt", vars := ["loop.example/musicengine/impl.valueBases"], fn := fun _ => fun
  | [d1, d2, g1] => { results := [.lit (.bool true)], args := [d1, d2], vars := [g1] }
  | _ => none }
def fnExactBeatAtRow : OpenClaim := { program := "ytcifmpjefhichaadoor", sum := "0e71e24d69da6ea99ab5b9fd99bd26c0eaf0ce78ad30f38b639b04fd2f65f00c", func := "loop.example/musicengine/laws.FnExactBeatAt", spec := "fnExactBeatAt", named := ["loop.example/musicengine/impl.valueBases"], apart := false, laid := [("loop.example/musicengine/impl.valueBases", laid_loop_example_musicengine_impl_valueBases)] }
def FnExactBeatAtSaid : Prop := fnExactBeatAtRow.holds Tryd.pinned (OpenSpec.ofChange fnExactBeatAtSpec)

/-- ITS FALSE NEIGHBOUR: 'it returns false'. Refute it at one input. -/
def fnExactBeatAtWrong : ChangeSpec := { name := "fnExactBeatAt", vars := ["loop.example/musicengine/impl.valueBases"], fn := fun _ => fun
  | [d1, d2, g1] => { results := [.lit (.bool false)], args := [d1, d2], vars := [g1] }
  | _ => none }
def FnExactBeatAtWrongFalsely : Prop := fnExactBeatAtRow.holds Tryd.pinned (OpenSpec.ofChange fnExactBeatAtWrong)

/-- 'laws.FnExactSplitBars': WHATEVER THE INPUT: true; the input reads as it did. -/
def fnExactSplitBarsSpec : ChangeSpec := { name := "fnExactSplitBars", vars := ["loop.example/musicengine/impl.valueBases"], fn := fun _ => fun
  | [d1, d2, g1] => { results := [.lit (.bool true)], args := [d1, d2], vars := [g1] }
  | _ => none }
def fnExactSplitBarsRow : OpenClaim := { program := "ytcifmpjefhichaadoor", sum := "0e71e24d69da6ea99ab5b9fd99bd26c0eaf0ce78ad30f38b639b04fd2f65f00c", func := "loop.example/musicengine/laws.FnExactSplitBars", spec := "fnExactSplitBars", unfollowed := true, recurses := true, named := ["loop.example/musicengine/impl.valueBases"], apart := false, laid := [("loop.example/musicengine/impl.valueBases", laid_loop_example_musicengine_impl_valueBases)] }
def FnExactSplitBarsSaid : Prop := fnExactSplitBarsRow.holds Tryd.pinned (OpenSpec.ofChange fnExactSplitBarsSpec)

/-- ITS FALSE NEIGHBOUR: 'it returns false'. Refute it at one input. -/
def fnExactSplitBarsWrong : ChangeSpec := { name := "fnExactSplitBars", vars := ["loop.example/musicengine/impl.valueBases"], fn := fun _ => fun
  | [d1, d2, g1] => { results := [.lit (.bool false)], args := [d1, d2], vars := [g1] }
  | _ => none }
def FnExactSplitBarsWrongFalsely : Prop := fnExactSplitBarsRow.holds Tryd.pinned (OpenSpec.ofChange fnExactSplitBarsWrong)

/-- 'laws.FnExactBarCount': WHATEVER THE INPUT: true; the input reads as it did. -/
def fnExactBarCountSpec : ChangeSpec := { name := "fnExactBarCount", vars := ["loop.example/musicengine/impl.valueBases"], fn := fun _ => fun
  | [d1, d2, g1] => { results := [.lit (.bool true)], args := [d1, d2], vars := [g1] }
  | _ => none }
def fnExactBarCountRow : OpenClaim := { program := "ytcifmpjefhichaadoor", sum := "0e71e24d69da6ea99ab5b9fd99bd26c0eaf0ce78ad30f38b639b04fd2f65f00c", func := "loop.example/musicengine/laws.FnExactBarCount", spec := "fnExactBarCount", named := ["loop.example/musicengine/impl.valueBases"], apart := false, laid := [("loop.example/musicengine/impl.valueBases", laid_loop_example_musicengine_impl_valueBases)] }
def FnExactBarCountSaid : Prop := fnExactBarCountRow.holds Tryd.pinned (OpenSpec.ofChange fnExactBarCountSpec)

/-- ITS FALSE NEIGHBOUR: 'it returns false'. Refute it at one input. -/
def fnExactBarCountWrong : ChangeSpec := { name := "fnExactBarCount", vars := ["loop.example/musicengine/impl.valueBases"], fn := fun _ => fun
  | [d1, d2, g1] => { results := [.lit (.bool false)], args := [d1, d2], vars := [g1] }
  | _ => none }
def FnExactBarCountWrongFalsely : Prop := fnExactBarCountRow.holds Tryd.pinned (OpenSpec.ofChange fnExactBarCountWrong)

/-- 'laws.FnExactFillBar': WHATEVER THE INPUT: true; the input reads as it did. -/
def fnExactFillBarSpec : ChangeSpec := { name := "fnExactFillBar", vars := ["loop.example/musicengine/impl.valueBases"], fn := fun _ => fun
  | [d1, d2, g1] => { results := [.lit (.bool true)], args := [d1, d2], vars := [g1] }
  | _ => none }
def fnExactFillBarRow : OpenClaim := { program := "ytcifmpjefhichaadoor", sum := "0e71e24d69da6ea99ab5b9fd99bd26c0eaf0ce78ad30f38b639b04fd2f65f00c", func := "loop.example/musicengine/laws.FnExactFillBar", spec := "fnExactFillBar", named := ["loop.example/musicengine/impl.valueBases"], apart := false, laid := [("loop.example/musicengine/impl.valueBases", laid_loop_example_musicengine_impl_valueBases)] }
def FnExactFillBarSaid : Prop := fnExactFillBarRow.holds Tryd.pinned (OpenSpec.ofChange fnExactFillBarSpec)

/-- ITS FALSE NEIGHBOUR: 'it returns false'. Refute it at one input. -/
def fnExactFillBarWrong : ChangeSpec := { name := "fnExactFillBar", vars := ["loop.example/musicengine/impl.valueBases"], fn := fun _ => fun
  | [d1, d2, g1] => { results := [.lit (.bool false)], args := [d1, d2], vars := [g1] }
  | _ => none }
def FnExactFillBarWrongFalsely : Prop := fnExactFillBarRow.holds Tryd.pinned (OpenSpec.ofChange fnExactFillBarWrong)

/- THE SECOND FORM. 'bulk': how many values and letters a reading holds, each counted each time it is reached (what is shared counts as often as it is met; a slice's spare places count too). A statement '..UptoSaid' is the law's where the arguments, and the package variables that the reading takes, are together of bulk at most 1048576: NARROWER than '..Said'. Prove '..Said' where nothing that the law and all that it calls make is longer than what came in: it says more and counts as full. Else prove '..UptoSaid'. A law counts once. -/
mutual
def uptoBulk {H : Type} : DataW H → Nat
  | .lit (.string bytes) => bytes.length + 1
  | .lit _ => 1
  | .nil => 1
  | .ptr d => uptoBulk d + 1
  | .slice elems spare => uptoBulkAll elems + uptoBulkAll spare + 1
  | .agg parts => uptoBulkAll parts + 1
  | .iface _ d => uptoBulk d + 1
  | .map entries => uptoBulkEntries entries + 1
  | .held _ => 1
def uptoBulkAll {H : Type} : List (DataW H) → Nat
  | [] => 0
  | d :: r => uptoBulk d + uptoBulkAll r
def uptoBulkEntries {H : Type} : List (Lit × DataW H) → Nat
  | [] => 0
  | x :: r => uptoBulkEntry x + uptoBulkEntries r
def uptoBulkEntry {H : Type} : Lit × DataW H → Nat
  | (.string bytes, d) => bytes.length + uptoBulk d + 1
  | (_, d) => uptoBulk d + 1
 end
def uptoSmall : (H : Type) → List (DataW H) → Bool := fun _ ds => decide (uptoBulkAll ds ≤ 1048576)
def OpenSpec.upto (s : _root_.Go.ChangeSpec) : _root_.Go.OpenSpec := { _root_.Go.OpenSpec.ofChange s with cond := some uptoSmall }

/-- 'laws.FnMeterValid', WHERE WHAT IT READS IS OF BULK AT MOST 1048576: true; the input reads as it did. -/
def fnMeterValidUptoRow : OpenClaim := { program := "ytcifmpjefhichaadoor", sum := "0e71e24d69da6ea99ab5b9fd99bd26c0eaf0ce78ad30f38b639b04fd2f65f00c", func := "loop.example/musicengine/laws.FnMeterValid", spec := "fnMeterValid", named := ["loop.example/musicengine/impl.valueBases", "loop.example/musicengine/impl.stepHalves"], apart := false, laid := [("loop.example/musicengine/impl.stepHalves", laid_loop_example_musicengine_impl_stepHalves), ("loop.example/musicengine/impl.valueBases", laid_loop_example_musicengine_impl_valueBases)], narrowed := true }
def FnMeterValidUptoSaid : Prop := fnMeterValidUptoRow.holds Tryd.pinned (OpenSpec.upto fnMeterValidSpec)

/-- 'laws.FnBarTicks', WHERE WHAT IT READS IS OF BULK AT MOST 1048576: true; the input reads as it did. -/
def fnBarTicksUptoRow : OpenClaim := { program := "ytcifmpjefhichaadoor", sum := "0e71e24d69da6ea99ab5b9fd99bd26c0eaf0ce78ad30f38b639b04fd2f65f00c", func := "loop.example/musicengine/laws.FnBarTicks", spec := "fnBarTicks", named := ["loop.example/musicengine/impl.valueBases", "loop.example/musicengine/impl.stepHalves", "loop.example/musicengine/impl.dotQuarters"], apart := false, laid := [("loop.example/musicengine/impl.stepHalves", laid_loop_example_musicengine_impl_stepHalves), ("loop.example/musicengine/impl.valueBases", laid_loop_example_musicengine_impl_valueBases), ("loop.example/musicengine/impl.dotQuarters", laid_loop_example_musicengine_impl_dotQuarters)], narrowed := true }
def FnBarTicksUptoSaid : Prop := fnBarTicksUptoRow.holds Tryd.pinned (OpenSpec.upto fnBarTicksSpec)

/-- 'laws.FnBeatAt', WHERE WHAT IT READS IS OF BULK AT MOST 1048576: true; the input reads as it did. -/
def fnBeatAtUptoRow : OpenClaim := { program := "ytcifmpjefhichaadoor", sum := "0e71e24d69da6ea99ab5b9fd99bd26c0eaf0ce78ad30f38b639b04fd2f65f00c", func := "loop.example/musicengine/laws.FnBeatAt", spec := "fnBeatAt", named := ["loop.example/musicengine/impl.valueBases", "loop.example/musicengine/impl.stepHalves"], apart := false, laid := [("loop.example/musicengine/impl.stepHalves", laid_loop_example_musicengine_impl_stepHalves), ("loop.example/musicengine/impl.valueBases", laid_loop_example_musicengine_impl_valueBases)], narrowed := true }
def FnBeatAtUptoSaid : Prop := fnBeatAtUptoRow.holds Tryd.pinned (OpenSpec.upto fnBeatAtSpec)

/-- 'laws.FnSplitBars', WHERE WHAT IT READS IS OF BULK AT MOST 1048576: true; the input reads as it did. -/
def fnSplitBarsUptoRow : OpenClaim := { program := "ytcifmpjefhichaadoor", sum := "0e71e24d69da6ea99ab5b9fd99bd26c0eaf0ce78ad30f38b639b04fd2f65f00c", func := "loop.example/musicengine/laws.FnSplitBars", spec := "fnSplitBars", unfollowed := true, recurses := true, named := ["loop.example/musicengine/impl.valueBases", "loop.example/musicengine/impl.stepHalves"], apart := false, laid := [("loop.example/musicengine/impl.stepHalves", laid_loop_example_musicengine_impl_stepHalves), ("loop.example/musicengine/impl.valueBases", laid_loop_example_musicengine_impl_valueBases)], narrowed := true }
def FnSplitBarsUptoSaid : Prop := fnSplitBarsUptoRow.holds Tryd.pinned (OpenSpec.upto fnSplitBarsSpec)

/-- 'laws.FnBarCount', WHERE WHAT IT READS IS OF BULK AT MOST 1048576: true; the input reads as it did. -/
def fnBarCountUptoRow : OpenClaim := { program := "ytcifmpjefhichaadoor", sum := "0e71e24d69da6ea99ab5b9fd99bd26c0eaf0ce78ad30f38b639b04fd2f65f00c", func := "loop.example/musicengine/laws.FnBarCount", spec := "fnBarCount", named := ["loop.example/musicengine/impl.valueBases", "loop.example/musicengine/impl.stepHalves"], apart := false, laid := [("loop.example/musicengine/impl.stepHalves", laid_loop_example_musicengine_impl_stepHalves), ("loop.example/musicengine/impl.valueBases", laid_loop_example_musicengine_impl_valueBases)], narrowed := true }
def FnBarCountUptoSaid : Prop := fnBarCountUptoRow.holds Tryd.pinned (OpenSpec.upto fnBarCountSpec)

/-- 'laws.FnFillBar', WHERE WHAT IT READS IS OF BULK AT MOST 1048576: true; the input reads as it did. -/
def fnFillBarUptoRow : OpenClaim := { program := "ytcifmpjefhichaadoor", sum := "0e71e24d69da6ea99ab5b9fd99bd26c0eaf0ce78ad30f38b639b04fd2f65f00c", func := "loop.example/musicengine/laws.FnFillBar", spec := "fnFillBar", named := ["loop.example/musicengine/impl.valueBases", "loop.example/musicengine/impl.stepHalves"], apart := false, laid := [("loop.example/musicengine/impl.stepHalves", laid_loop_example_musicengine_impl_stepHalves), ("loop.example/musicengine/impl.valueBases", laid_loop_example_musicengine_impl_valueBases)], narrowed := true }
def FnFillBarUptoSaid : Prop := fnFillBarUptoRow.holds Tryd.pinned (OpenSpec.upto fnFillBarSpec)

/-- 'laws.FnSplitBeats', WHERE WHAT IT READS IS OF BULK AT MOST 1048576: true; the input reads as it did. -/
def fnSplitBeatsUptoRow : OpenClaim := { program := "ytcifmpjefhichaadoor", sum := "0e71e24d69da6ea99ab5b9fd99bd26c0eaf0ce78ad30f38b639b04fd2f65f00c", func := "loop.example/musicengine/laws.FnSplitBeats", spec := "fnSplitBeats", unfollowed := true, recurses := true, named := ["loop.example/musicengine/impl.valueBases", "loop.example/musicengine/impl.stepHalves"], apart := false, laid := [("loop.example/musicengine/impl.stepHalves", laid_loop_example_musicengine_impl_stepHalves), ("loop.example/musicengine/impl.valueBases", laid_loop_example_musicengine_impl_valueBases)], narrowed := true }
def FnSplitBeatsUptoSaid : Prop := fnSplitBeatsUptoRow.holds Tryd.pinned (OpenSpec.upto fnSplitBeatsSpec)

/-- 'laws.FnExactBarTicks', WHERE WHAT IT READS IS OF BULK AT MOST 1048576: true; the input reads as it did. -/
def fnExactBarTicksUptoRow : OpenClaim := { program := "ytcifmpjefhichaadoor", sum := "0e71e24d69da6ea99ab5b9fd99bd26c0eaf0ce78ad30f38b639b04fd2f65f00c", func := "loop.example/musicengine/laws.FnExactBarTicks", spec := "fnExactBarTicks", named := ["loop.example/musicengine/impl.valueBases"], apart := false, laid := [("loop.example/musicengine/impl.valueBases", laid_loop_example_musicengine_impl_valueBases)], narrowed := true }
def FnExactBarTicksUptoSaid : Prop := fnExactBarTicksUptoRow.holds Tryd.pinned (OpenSpec.upto fnExactBarTicksSpec)

/-- 'laws.FnExactBeatAt', WHERE WHAT IT READS IS OF BULK AT MOST 1048576: true; the input reads as it did. -/
def fnExactBeatAtUptoRow : OpenClaim := { program := "ytcifmpjefhichaadoor", sum := "0e71e24d69da6ea99ab5b9fd99bd26c0eaf0ce78ad30f38b639b04fd2f65f00c", func := "loop.example/musicengine/laws.FnExactBeatAt", spec := "fnExactBeatAt", named := ["loop.example/musicengine/impl.valueBases"], apart := false, laid := [("loop.example/musicengine/impl.valueBases", laid_loop_example_musicengine_impl_valueBases)], narrowed := true }
def FnExactBeatAtUptoSaid : Prop := fnExactBeatAtUptoRow.holds Tryd.pinned (OpenSpec.upto fnExactBeatAtSpec)

/-- 'laws.FnExactSplitBars', WHERE WHAT IT READS IS OF BULK AT MOST 1048576: true; the input reads as it did. -/
def fnExactSplitBarsUptoRow : OpenClaim := { program := "ytcifmpjefhichaadoor", sum := "0e71e24d69da6ea99ab5b9fd99bd26c0eaf0ce78ad30f38b639b04fd2f65f00c", func := "loop.example/musicengine/laws.FnExactSplitBars", spec := "fnExactSplitBars", unfollowed := true, recurses := true, named := ["loop.example/musicengine/impl.valueBases"], apart := false, laid := [("loop.example/musicengine/impl.valueBases", laid_loop_example_musicengine_impl_valueBases)], narrowed := true }
def FnExactSplitBarsUptoSaid : Prop := fnExactSplitBarsUptoRow.holds Tryd.pinned (OpenSpec.upto fnExactSplitBarsSpec)

/-- 'laws.FnExactBarCount', WHERE WHAT IT READS IS OF BULK AT MOST 1048576: true; the input reads as it did. -/
def fnExactBarCountUptoRow : OpenClaim := { program := "ytcifmpjefhichaadoor", sum := "0e71e24d69da6ea99ab5b9fd99bd26c0eaf0ce78ad30f38b639b04fd2f65f00c", func := "loop.example/musicengine/laws.FnExactBarCount", spec := "fnExactBarCount", named := ["loop.example/musicengine/impl.valueBases"], apart := false, laid := [("loop.example/musicengine/impl.valueBases", laid_loop_example_musicengine_impl_valueBases)], narrowed := true }
def FnExactBarCountUptoSaid : Prop := fnExactBarCountUptoRow.holds Tryd.pinned (OpenSpec.upto fnExactBarCountSpec)

/-- 'laws.FnExactFillBar', WHERE WHAT IT READS IS OF BULK AT MOST 1048576: true; the input reads as it did. -/
def fnExactFillBarUptoRow : OpenClaim := { program := "ytcifmpjefhichaadoor", sum := "0e71e24d69da6ea99ab5b9fd99bd26c0eaf0ce78ad30f38b639b04fd2f65f00c", func := "loop.example/musicengine/laws.FnExactFillBar", spec := "fnExactFillBar", named := ["loop.example/musicengine/impl.valueBases"], apart := false, laid := [("loop.example/musicengine/impl.valueBases", laid_loop_example_musicengine_impl_valueBases)], narrowed := true }
def FnExactFillBarUptoSaid : Prop := fnExactFillBarUptoRow.holds Tryd.pinned (OpenSpec.upto fnExactFillBarSpec)

end Rows
end Go.Proofs.YtcifmpjefhichaaDoor
