/-
  NARROWER THAN 'FOR EVERY INPUT', by the rows' own cells (each row's printed sentence says how): FnCountLines: laid · FnLineNumber: laid · FnCompleteLine: laid · FnLineBounds: laid · FnExactCountLines: laid · FnExactLineNumber: laid · FnExactCompleteLine: laid.
  DERIVED. THE GIVEN ROWS OF THIS SEAT. 7 by the template 'for every input the law returns true; each argument reads behind the call as it read before'; 0 by the template 'total and deterministic' (their statements: YtieoobanpllmgaaDoorTotals.lean).
  GIVEN WITH THE SEED: the statements are not yours to turn. If you find one false, say at which input.
  Laid BY PROGRAM, IN A SANDBOX (cutbox-rows.mjs): the forced cells as the released guide's own fill.sh prints them over the translation a3720f5ef2d929e4… (all of the seat's roots in one cut). By AI agents, Wed Nov 11 2026. No macro, syntax, notation, axiom, sorry.
-/
import Derived.Test.YtieoobanpllmgaaDoorChecked
import GoSem.Claim
import GoSem.ClaimJoined
import GoSem.ClaimMapViews
import Derived.JoinedTies
import Derived.KernelRfl
namespace Go.Proofs.YtieoobanpllmgaaDoor
/- THE CELL 'sum', in the pinned program and in every row, IS THE sha256 OF THE DUMP (.gsa) THAT YtieoobanpllmgaaDoorProg.lean LOADS. Nothing in Lean hashes anything: it is a label: what it is worth is what the hold of that sum in a sandbox is worth. -/
noncomputable def Tryd.pinned : Pinned := { name := "ytieoobanpllmgaadoor", sum := "a3720f5ef2d929e49e1b1e4897c7febd0e3f9ff33257620d4c3f833f50a852eb", checked := Tryd.checked }
namespace Rows
def none {H : Type} : Left H := { results := [], args := [] }

/- WHAT THE LISTED PACKAGE-LEVEL VARIABLES READ AS WHEN THE CALL BEGINS. Each datum BY PROGRAM (the guide's laid-datum.mjs) off the statement by which the dump's own 'gosem.cut.vars' lays the variable. In a bare row this is a premise. The card (YtieoobanpllmgaaDoorCards.lean) ties it to the program's text. -/
def laid_loop_example_musicengine_impl_stepHalves {H : Type} : DataW H := .agg [.lit (.int .i64 0), .lit (.int .i64 2), .lit (.int .i64 4), .lit (.int .i64 5), .lit (.int .i64 7), .lit (.int .i64 9), .lit (.int .i64 11)]
def laid_loop_example_musicengine_impl_keyAlters {H : Type} : DataW H := .agg [.agg [.lit (.int .i64 (-1)), .lit (.int .i64 (-1)), .lit (.int .i64 (-1)), .lit (.int .i64 (-1)), .lit (.int .i64 (-1)), .lit (.int .i64 (-1)), .lit (.int .i64 (-1))], .agg [.lit (.int .i64 (-1)), .lit (.int .i64 (-1)), .lit (.int .i64 (-1)), .lit (.int .i64 0), .lit (.int .i64 (-1)), .lit (.int .i64 (-1)), .lit (.int .i64 (-1))], .agg [.lit (.int .i64 0), .lit (.int .i64 (-1)), .lit (.int .i64 (-1)), .lit (.int .i64 0), .lit (.int .i64 (-1)), .lit (.int .i64 (-1)), .lit (.int .i64 (-1))], .agg [.lit (.int .i64 0), .lit (.int .i64 (-1)), .lit (.int .i64 (-1)), .lit (.int .i64 0), .lit (.int .i64 0), .lit (.int .i64 (-1)), .lit (.int .i64 (-1))], .agg [.lit (.int .i64 0), .lit (.int .i64 0), .lit (.int .i64 (-1)), .lit (.int .i64 0), .lit (.int .i64 0), .lit (.int .i64 (-1)), .lit (.int .i64 (-1))], .agg [.lit (.int .i64 0), .lit (.int .i64 0), .lit (.int .i64 (-1)), .lit (.int .i64 0), .lit (.int .i64 0), .lit (.int .i64 0), .lit (.int .i64 (-1))], .agg [.lit (.int .i64 0), .lit (.int .i64 0), .lit (.int .i64 0), .lit (.int .i64 0), .lit (.int .i64 0), .lit (.int .i64 0), .lit (.int .i64 (-1))], .agg [.lit (.int .i64 0), .lit (.int .i64 0), .lit (.int .i64 0), .lit (.int .i64 0), .lit (.int .i64 0), .lit (.int .i64 0), .lit (.int .i64 0)], .agg [.lit (.int .i64 0), .lit (.int .i64 0), .lit (.int .i64 0), .lit (.int .i64 1), .lit (.int .i64 0), .lit (.int .i64 0), .lit (.int .i64 0)], .agg [.lit (.int .i64 1), .lit (.int .i64 0), .lit (.int .i64 0), .lit (.int .i64 1), .lit (.int .i64 0), .lit (.int .i64 0), .lit (.int .i64 0)], .agg [.lit (.int .i64 1), .lit (.int .i64 0), .lit (.int .i64 0), .lit (.int .i64 1), .lit (.int .i64 1), .lit (.int .i64 0), .lit (.int .i64 0)], .agg [.lit (.int .i64 1), .lit (.int .i64 1), .lit (.int .i64 0), .lit (.int .i64 1), .lit (.int .i64 1), .lit (.int .i64 0), .lit (.int .i64 0)], .agg [.lit (.int .i64 1), .lit (.int .i64 1), .lit (.int .i64 0), .lit (.int .i64 1), .lit (.int .i64 1), .lit (.int .i64 1), .lit (.int .i64 0)], .agg [.lit (.int .i64 1), .lit (.int .i64 1), .lit (.int .i64 1), .lit (.int .i64 1), .lit (.int .i64 1), .lit (.int .i64 1), .lit (.int .i64 0)], .agg [.lit (.int .i64 1), .lit (.int .i64 1), .lit (.int .i64 1), .lit (.int .i64 1), .lit (.int .i64 1), .lit (.int .i64 1), .lit (.int .i64 1)]]

/-- 'laws.FnCountLines': WHATEVER THE INPUT: true; the input reads as it did. -/
def fnCountLinesSpec : ChangeSpec := { name := "fnCountLines", vars := ["loop.example/musicengine/impl.keyAlters", "loop.example/musicengine/impl.stepHalves"], fn := fun _ => fun
  | [d, g1, g2] => { results := [.lit (.bool true)], args := [d], vars := [g1, g2] }
  | _ => none }
def fnCountLinesRow : OpenClaim := { program := "ytieoobanpllmgaadoor", sum := "a3720f5ef2d929e49e1b1e4897c7febd0e3f9ff33257620d4c3f833f50a852eb", func := "loop.example/musicengine/laws.FnCountLines", spec := "fnCountLines", unfollowed := true, recurses := true, named := ["loop.example/musicengine/impl.keyAlters", "loop.example/musicengine/impl.stepHalves"], apart := false, laid := [("loop.example/musicengine/impl.stepHalves", laid_loop_example_musicengine_impl_stepHalves), ("loop.example/musicengine/impl.keyAlters", laid_loop_example_musicengine_impl_keyAlters)] }
def FnCountLinesSaid : Prop := fnCountLinesRow.holds Tryd.pinned (OpenSpec.ofChange fnCountLinesSpec)

/-- ITS FALSE NEIGHBOUR: 'it returns false'. Refute it at one input. -/
def fnCountLinesWrong : ChangeSpec := { name := "fnCountLines", vars := ["loop.example/musicengine/impl.keyAlters", "loop.example/musicengine/impl.stepHalves"], fn := fun _ => fun
  | [d, g1, g2] => { results := [.lit (.bool false)], args := [d], vars := [g1, g2] }
  | _ => none }
def FnCountLinesWrongFalsely : Prop := fnCountLinesRow.holds Tryd.pinned (OpenSpec.ofChange fnCountLinesWrong)

/-- 'laws.FnLineNumber': WHATEVER THE INPUT: true; the input reads as it did. -/
def fnLineNumberSpec : ChangeSpec := { name := "fnLineNumber", vars := ["loop.example/musicengine/impl.keyAlters", "loop.example/musicengine/impl.stepHalves"], fn := fun _ => fun
  | [d, g1, g2] => { results := [.lit (.bool true)], args := [d], vars := [g1, g2] }
  | _ => none }
def fnLineNumberRow : OpenClaim := { program := "ytieoobanpllmgaadoor", sum := "a3720f5ef2d929e49e1b1e4897c7febd0e3f9ff33257620d4c3f833f50a852eb", func := "loop.example/musicengine/laws.FnLineNumber", spec := "fnLineNumber", unfollowed := true, recurses := true, named := ["loop.example/musicengine/impl.keyAlters", "loop.example/musicengine/impl.stepHalves"], apart := false, laid := [("loop.example/musicengine/impl.stepHalves", laid_loop_example_musicengine_impl_stepHalves), ("loop.example/musicengine/impl.keyAlters", laid_loop_example_musicengine_impl_keyAlters)] }
def FnLineNumberSaid : Prop := fnLineNumberRow.holds Tryd.pinned (OpenSpec.ofChange fnLineNumberSpec)

/-- ITS FALSE NEIGHBOUR: 'it returns false'. Refute it at one input. -/
def fnLineNumberWrong : ChangeSpec := { name := "fnLineNumber", vars := ["loop.example/musicengine/impl.keyAlters", "loop.example/musicengine/impl.stepHalves"], fn := fun _ => fun
  | [d, g1, g2] => { results := [.lit (.bool false)], args := [d], vars := [g1, g2] }
  | _ => none }
def FnLineNumberWrongFalsely : Prop := fnLineNumberRow.holds Tryd.pinned (OpenSpec.ofChange fnLineNumberWrong)

/-- 'laws.FnCompleteLine': WHATEVER THE INPUT: true; the input reads as it did. -/
def fnCompleteLineSpec : ChangeSpec := { name := "fnCompleteLine", vars := ["loop.example/musicengine/impl.keyAlters", "loop.example/musicengine/impl.stepHalves"], fn := fun _ => fun
  | [d, g1, g2] => { results := [.lit (.bool true)], args := [d], vars := [g1, g2] }
  | _ => none }
def fnCompleteLineRow : OpenClaim := { program := "ytieoobanpllmgaadoor", sum := "a3720f5ef2d929e49e1b1e4897c7febd0e3f9ff33257620d4c3f833f50a852eb", func := "loop.example/musicengine/laws.FnCompleteLine", spec := "fnCompleteLine", unfollowed := true, recurses := true, named := ["loop.example/musicengine/impl.keyAlters", "loop.example/musicengine/impl.stepHalves"], apart := false, laid := [("loop.example/musicengine/impl.stepHalves", laid_loop_example_musicengine_impl_stepHalves), ("loop.example/musicengine/impl.keyAlters", laid_loop_example_musicengine_impl_keyAlters)] }
def FnCompleteLineSaid : Prop := fnCompleteLineRow.holds Tryd.pinned (OpenSpec.ofChange fnCompleteLineSpec)

/-- ITS FALSE NEIGHBOUR: 'it returns false'. Refute it at one input. -/
def fnCompleteLineWrong : ChangeSpec := { name := "fnCompleteLine", vars := ["loop.example/musicengine/impl.keyAlters", "loop.example/musicengine/impl.stepHalves"], fn := fun _ => fun
  | [d, g1, g2] => { results := [.lit (.bool false)], args := [d], vars := [g1, g2] }
  | _ => none }
def FnCompleteLineWrongFalsely : Prop := fnCompleteLineRow.holds Tryd.pinned (OpenSpec.ofChange fnCompleteLineWrong)

/-- 'laws.FnLineBounds': WHATEVER THE INPUT: true; the input reads as it did. -/
def fnLineBoundsSpec : ChangeSpec := { name := "fnLineBounds", vars := ["loop.example/musicengine/impl.keyAlters", "loop.example/musicengine/impl.stepHalves"], fn := fun _ => fun
  | [d, g1, g2] => { results := [.lit (.bool true)], args := [d], vars := [g1, g2] }
  | _ => none }
def fnLineBoundsRow : OpenClaim := { program := "ytieoobanpllmgaadoor", sum := "a3720f5ef2d929e49e1b1e4897c7febd0e3f9ff33257620d4c3f833f50a852eb", func := "loop.example/musicengine/laws.FnLineBounds", spec := "fnLineBounds", unfollowed := true, recurses := true, named := ["loop.example/musicengine/impl.keyAlters", "loop.example/musicengine/impl.stepHalves"], apart := false, laid := [("loop.example/musicengine/impl.stepHalves", laid_loop_example_musicengine_impl_stepHalves), ("loop.example/musicengine/impl.keyAlters", laid_loop_example_musicengine_impl_keyAlters)] }
def FnLineBoundsSaid : Prop := fnLineBoundsRow.holds Tryd.pinned (OpenSpec.ofChange fnLineBoundsSpec)

/-- ITS FALSE NEIGHBOUR: 'it returns false'. Refute it at one input. -/
def fnLineBoundsWrong : ChangeSpec := { name := "fnLineBounds", vars := ["loop.example/musicengine/impl.keyAlters", "loop.example/musicengine/impl.stepHalves"], fn := fun _ => fun
  | [d, g1, g2] => { results := [.lit (.bool false)], args := [d], vars := [g1, g2] }
  | _ => none }
def FnLineBoundsWrongFalsely : Prop := fnLineBoundsRow.holds Tryd.pinned (OpenSpec.ofChange fnLineBoundsWrong)

/-- 'laws.FnExactCountLines': WHATEVER THE INPUT: true; the input reads as it did. -/
def fnExactCountLinesSpec : ChangeSpec := { name := "fnExactCountLines", vars := ["loop.example/musicengine/impl.keyAlters", "loop.example/musicengine/impl.stepHalves"], fn := fun _ => fun
  | [d1, d2, d3, d4, g1, g2] => { results := [.lit (.bool true)], args := [d1, d2, d3, d4], vars := [g1, g2] }
  | _ => none }
def fnExactCountLinesRow : OpenClaim := { program := "ytieoobanpllmgaadoor", sum := "a3720f5ef2d929e49e1b1e4897c7febd0e3f9ff33257620d4c3f833f50a852eb", func := "loop.example/musicengine/laws.FnExactCountLines", spec := "fnExactCountLines", unfollowed := true, recurses := true, named := ["loop.example/musicengine/impl.keyAlters", "loop.example/musicengine/impl.stepHalves"], apart := false, laid := [("loop.example/musicengine/impl.stepHalves", laid_loop_example_musicengine_impl_stepHalves), ("loop.example/musicengine/impl.keyAlters", laid_loop_example_musicengine_impl_keyAlters)] }
def FnExactCountLinesSaid : Prop := fnExactCountLinesRow.holds Tryd.pinned (OpenSpec.ofChange fnExactCountLinesSpec)

/-- ITS FALSE NEIGHBOUR: 'it returns false'. Refute it at one input. -/
def fnExactCountLinesWrong : ChangeSpec := { name := "fnExactCountLines", vars := ["loop.example/musicengine/impl.keyAlters", "loop.example/musicengine/impl.stepHalves"], fn := fun _ => fun
  | [d1, d2, d3, d4, g1, g2] => { results := [.lit (.bool false)], args := [d1, d2, d3, d4], vars := [g1, g2] }
  | _ => none }
def FnExactCountLinesWrongFalsely : Prop := fnExactCountLinesRow.holds Tryd.pinned (OpenSpec.ofChange fnExactCountLinesWrong)

/-- 'laws.FnExactLineNumber': WHATEVER THE INPUT: true; the input reads as it did. -/
def fnExactLineNumberSpec : ChangeSpec := { name := "fnExactLineNumber", vars := ["loop.example/musicengine/impl.keyAlters", "loop.example/musicengine/impl.stepHalves"], fn := fun _ => fun
  | [d1, d2, d3, d4, d5, g1, g2] => { results := [.lit (.bool true)], args := [d1, d2, d3, d4, d5], vars := [g1, g2] }
  | _ => none }
def fnExactLineNumberRow : OpenClaim := { program := "ytieoobanpllmgaadoor", sum := "a3720f5ef2d929e49e1b1e4897c7febd0e3f9ff33257620d4c3f833f50a852eb", func := "loop.example/musicengine/laws.FnExactLineNumber", spec := "fnExactLineNumber", unfollowed := true, recurses := true, named := ["loop.example/musicengine/impl.keyAlters", "loop.example/musicengine/impl.stepHalves"], apart := false, laid := [("loop.example/musicengine/impl.stepHalves", laid_loop_example_musicengine_impl_stepHalves), ("loop.example/musicengine/impl.keyAlters", laid_loop_example_musicengine_impl_keyAlters)] }
def FnExactLineNumberSaid : Prop := fnExactLineNumberRow.holds Tryd.pinned (OpenSpec.ofChange fnExactLineNumberSpec)

/-- ITS FALSE NEIGHBOUR: 'it returns false'. Refute it at one input. -/
def fnExactLineNumberWrong : ChangeSpec := { name := "fnExactLineNumber", vars := ["loop.example/musicengine/impl.keyAlters", "loop.example/musicengine/impl.stepHalves"], fn := fun _ => fun
  | [d1, d2, d3, d4, d5, g1, g2] => { results := [.lit (.bool false)], args := [d1, d2, d3, d4, d5], vars := [g1, g2] }
  | _ => none }
def FnExactLineNumberWrongFalsely : Prop := fnExactLineNumberRow.holds Tryd.pinned (OpenSpec.ofChange fnExactLineNumberWrong)

/-- 'laws.FnExactCompleteLine': WHATEVER THE INPUT: true; the input reads as it did. -/
def fnExactCompleteLineSpec : ChangeSpec := { name := "fnExactCompleteLine", vars := ["loop.example/musicengine/impl.keyAlters", "loop.example/musicengine/impl.stepHalves"], fn := fun _ => fun
  | [d1, d2, d3, d4, g1, g2] => { results := [.lit (.bool true)], args := [d1, d2, d3, d4], vars := [g1, g2] }
  | _ => none }
def fnExactCompleteLineRow : OpenClaim := { program := "ytieoobanpllmgaadoor", sum := "a3720f5ef2d929e49e1b1e4897c7febd0e3f9ff33257620d4c3f833f50a852eb", func := "loop.example/musicengine/laws.FnExactCompleteLine", spec := "fnExactCompleteLine", unfollowed := true, recurses := true, named := ["loop.example/musicengine/impl.keyAlters", "loop.example/musicengine/impl.stepHalves"], apart := false, laid := [("loop.example/musicengine/impl.stepHalves", laid_loop_example_musicengine_impl_stepHalves), ("loop.example/musicengine/impl.keyAlters", laid_loop_example_musicengine_impl_keyAlters)] }
def FnExactCompleteLineSaid : Prop := fnExactCompleteLineRow.holds Tryd.pinned (OpenSpec.ofChange fnExactCompleteLineSpec)

/-- ITS FALSE NEIGHBOUR: 'it returns false'. Refute it at one input. -/
def fnExactCompleteLineWrong : ChangeSpec := { name := "fnExactCompleteLine", vars := ["loop.example/musicengine/impl.keyAlters", "loop.example/musicengine/impl.stepHalves"], fn := fun _ => fun
  | [d1, d2, d3, d4, g1, g2] => { results := [.lit (.bool false)], args := [d1, d2, d3, d4], vars := [g1, g2] }
  | _ => none }
def FnExactCompleteLineWrongFalsely : Prop := fnExactCompleteLineRow.holds Tryd.pinned (OpenSpec.ofChange fnExactCompleteLineWrong)

/- THE SECOND FORM. 'bulk': how many values and letters a reading holds, each counted each time it is reached (what is shared counts as often as it is met; a slice's spare places count too). A statement '..UptoSaid' is the law's where the arguments, and the package variables that the reading takes, are together of bulk at most 1048576: NARROWER than '..Said'. Prove '..Said' where nothing that the law and all that it calls make is longer than what came in: it says more and counts as full. Else prove '..UptoSaid'. A law counts once. -/
mutual
def uptoBulk {H : Type} : DataW H → Nat
  | .lit (.string bytes) => bytes.length + 1
  | .lit _ => 1
  | .nil => 1
  | .ptr d => uptoBulk d + 1
  | .slice elems spare => uptoBulkAll elems + uptoBulkAll spare + 1
  | .agg parts => uptoBulkAll parts + 1
  | .iface _ d => uptoBulk d + 1
  | .map entries => uptoBulkEntries entries + 1
  | .held _ => 1
def uptoBulkAll {H : Type} : List (DataW H) → Nat
  | [] => 0
  | d :: r => uptoBulk d + uptoBulkAll r
def uptoBulkEntries {H : Type} : List (Lit × DataW H) → Nat
  | [] => 0
  | x :: r => uptoBulkEntry x + uptoBulkEntries r
def uptoBulkEntry {H : Type} : Lit × DataW H → Nat
  | (.string bytes, d) => bytes.length + uptoBulk d + 1
  | (_, d) => uptoBulk d + 1
 end
def uptoSmall : (H : Type) → List (DataW H) → Bool := fun _ ds => decide (uptoBulkAll ds ≤ 1048576)
def OpenSpec.upto (s : _root_.Go.ChangeSpec) : _root_.Go.OpenSpec := { _root_.Go.OpenSpec.ofChange s with cond := some uptoSmall }

/-- 'laws.FnCountLines', WHERE WHAT IT READS IS OF BULK AT MOST 1048576: true; the input reads as it did. -/
def fnCountLinesUptoRow : OpenClaim := { program := "ytieoobanpllmgaadoor", sum := "a3720f5ef2d929e49e1b1e4897c7febd0e3f9ff33257620d4c3f833f50a852eb", func := "loop.example/musicengine/laws.FnCountLines", spec := "fnCountLines", unfollowed := true, recurses := true, named := ["loop.example/musicengine/impl.keyAlters", "loop.example/musicengine/impl.stepHalves"], apart := false, laid := [("loop.example/musicengine/impl.stepHalves", laid_loop_example_musicengine_impl_stepHalves), ("loop.example/musicengine/impl.keyAlters", laid_loop_example_musicengine_impl_keyAlters)], narrowed := true }
def FnCountLinesUptoSaid : Prop := fnCountLinesUptoRow.holds Tryd.pinned (OpenSpec.upto fnCountLinesSpec)

/-- 'laws.FnLineNumber', WHERE WHAT IT READS IS OF BULK AT MOST 1048576: true; the input reads as it did. -/
def fnLineNumberUptoRow : OpenClaim := { program := "ytieoobanpllmgaadoor", sum := "a3720f5ef2d929e49e1b1e4897c7febd0e3f9ff33257620d4c3f833f50a852eb", func := "loop.example/musicengine/laws.FnLineNumber", spec := "fnLineNumber", unfollowed := true, recurses := true, named := ["loop.example/musicengine/impl.keyAlters", "loop.example/musicengine/impl.stepHalves"], apart := false, laid := [("loop.example/musicengine/impl.stepHalves", laid_loop_example_musicengine_impl_stepHalves), ("loop.example/musicengine/impl.keyAlters", laid_loop_example_musicengine_impl_keyAlters)], narrowed := true }
def FnLineNumberUptoSaid : Prop := fnLineNumberUptoRow.holds Tryd.pinned (OpenSpec.upto fnLineNumberSpec)

/-- 'laws.FnCompleteLine', WHERE WHAT IT READS IS OF BULK AT MOST 1048576: true; the input reads as it did. -/
def fnCompleteLineUptoRow : OpenClaim := { program := "ytieoobanpllmgaadoor", sum := "a3720f5ef2d929e49e1b1e4897c7febd0e3f9ff33257620d4c3f833f50a852eb", func := "loop.example/musicengine/laws.FnCompleteLine", spec := "fnCompleteLine", unfollowed := true, recurses := true, named := ["loop.example/musicengine/impl.keyAlters", "loop.example/musicengine/impl.stepHalves"], apart := false, laid := [("loop.example/musicengine/impl.stepHalves", laid_loop_example_musicengine_impl_stepHalves), ("loop.example/musicengine/impl.keyAlters", laid_loop_example_musicengine_impl_keyAlters)], narrowed := true }
def FnCompleteLineUptoSaid : Prop := fnCompleteLineUptoRow.holds Tryd.pinned (OpenSpec.upto fnCompleteLineSpec)

/-- 'laws.FnLineBounds', WHERE WHAT IT READS IS OF BULK AT MOST 1048576: true; the input reads as it did. -/
def fnLineBoundsUptoRow : OpenClaim := { program := "ytieoobanpllmgaadoor", sum := "a3720f5ef2d929e49e1b1e4897c7febd0e3f9ff33257620d4c3f833f50a852eb", func := "loop.example/musicengine/laws.FnLineBounds", spec := "fnLineBounds", unfollowed := true, recurses := true, named := ["loop.example/musicengine/impl.keyAlters", "loop.example/musicengine/impl.stepHalves"], apart := false, laid := [("loop.example/musicengine/impl.stepHalves", laid_loop_example_musicengine_impl_stepHalves), ("loop.example/musicengine/impl.keyAlters", laid_loop_example_musicengine_impl_keyAlters)], narrowed := true }
def FnLineBoundsUptoSaid : Prop := fnLineBoundsUptoRow.holds Tryd.pinned (OpenSpec.upto fnLineBoundsSpec)

/-- 'laws.FnExactCountLines', WHERE WHAT IT READS IS OF BULK AT MOST 1048576: true; the input reads as it did. -/
def fnExactCountLinesUptoRow : OpenClaim := { program := "ytieoobanpllmgaadoor", sum := "a3720f5ef2d929e49e1b1e4897c7febd0e3f9ff33257620d4c3f833f50a852eb", func := "loop.example/musicengine/laws.FnExactCountLines", spec := "fnExactCountLines", unfollowed := true, recurses := true, named := ["loop.example/musicengine/impl.keyAlters", "loop.example/musicengine/impl.stepHalves"], apart := false, laid := [("loop.example/musicengine/impl.stepHalves", laid_loop_example_musicengine_impl_stepHalves), ("loop.example/musicengine/impl.keyAlters", laid_loop_example_musicengine_impl_keyAlters)], narrowed := true }
def FnExactCountLinesUptoSaid : Prop := fnExactCountLinesUptoRow.holds Tryd.pinned (OpenSpec.upto fnExactCountLinesSpec)

/-- 'laws.FnExactLineNumber', WHERE WHAT IT READS IS OF BULK AT MOST 1048576: true; the input reads as it did. -/
def fnExactLineNumberUptoRow : OpenClaim := { program := "ytieoobanpllmgaadoor", sum := "a3720f5ef2d929e49e1b1e4897c7febd0e3f9ff33257620d4c3f833f50a852eb", func := "loop.example/musicengine/laws.FnExactLineNumber", spec := "fnExactLineNumber", unfollowed := true, recurses := true, named := ["loop.example/musicengine/impl.keyAlters", "loop.example/musicengine/impl.stepHalves"], apart := false, laid := [("loop.example/musicengine/impl.stepHalves", laid_loop_example_musicengine_impl_stepHalves), ("loop.example/musicengine/impl.keyAlters", laid_loop_example_musicengine_impl_keyAlters)], narrowed := true }
def FnExactLineNumberUptoSaid : Prop := fnExactLineNumberUptoRow.holds Tryd.pinned (OpenSpec.upto fnExactLineNumberSpec)

/-- 'laws.FnExactCompleteLine', WHERE WHAT IT READS IS OF BULK AT MOST 1048576: true; the input reads as it did. -/
def fnExactCompleteLineUptoRow : OpenClaim := { program := "ytieoobanpllmgaadoor", sum := "a3720f5ef2d929e49e1b1e4897c7febd0e3f9ff33257620d4c3f833f50a852eb", func := "loop.example/musicengine/laws.FnExactCompleteLine", spec := "fnExactCompleteLine", unfollowed := true, recurses := true, named := ["loop.example/musicengine/impl.keyAlters", "loop.example/musicengine/impl.stepHalves"], apart := false, laid := [("loop.example/musicengine/impl.stepHalves", laid_loop_example_musicengine_impl_stepHalves), ("loop.example/musicengine/impl.keyAlters", laid_loop_example_musicengine_impl_keyAlters)], narrowed := true }
def FnExactCompleteLineUptoSaid : Prop := fnExactCompleteLineUptoRow.holds Tryd.pinned (OpenSpec.upto fnExactCompleteLineSpec)

end Rows
end Go.Proofs.YtieoobanpllmgaaDoor
