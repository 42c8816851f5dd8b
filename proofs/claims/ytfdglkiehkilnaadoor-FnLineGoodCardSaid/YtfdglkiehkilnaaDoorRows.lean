/-
  NARROWER THAN 'FOR EVERY INPUT', by the rows' own cells (each row's printed sentence says how): FnCantusValid: laid · FnLineFaults: laid · FnLineGood: laid · FnExactCantusValid: laid · FnExactLineFaults: laid · FnExactLineGood: laid · FnPartsFaults: laid · FnExactPartsFaults: laid · FnRealizeBass: laid.
  DERIVED. THE GIVEN ROWS OF THIS SEAT. 9 by the template 'for every input the law returns true; each argument reads behind the call as it read before'; 0 by the template 'total and deterministic' (their statements: YtfdglkiehkilnaaDoorTotals.lean).
  GIVEN WITH THE SEED: the statements are not yours to turn. If you find one false, say at which input.
  Laid BY PROGRAM, IN A SANDBOX (cutbox-rows.mjs): the forced cells as the released guide's own fill.sh prints them over the translation 654fc4de62aeeb43… (all of the seat's roots in one cut). By AI agents, Wed Nov 11 2026. No macro, syntax, notation, axiom, sorry.
-/
import Derived.Test.YtfdglkiehkilnaaDoorChecked
import GoSem.Claim
import GoSem.ClaimJoined
import GoSem.ClaimMapViews
import Derived.JoinedTies
import Derived.KernelRfl
namespace Go.Proofs.YtfdglkiehkilnaaDoor
/- THE CELL 'sum', in the pinned program and in every row, IS THE sha256 OF THE DUMP (.gsa) THAT YtfdglkiehkilnaaDoorProg.lean LOADS. Nothing in Lean hashes anything: it is a label: what it is worth is what the hold of that sum in a sandbox is worth. -/
noncomputable def Tryd.pinned : Pinned := { name := "ytfdglkiehkilnaadoor", sum := "654fc4de62aeeb43cabb214681f1e6e0d77e176e951c5141fa8bfaeac136e94b", checked := Tryd.checked }
namespace Rows
def none {H : Type} : Left H := { results := [], args := [] }

/- WHAT THE LISTED PACKAGE-LEVEL VARIABLES READ AS WHEN THE CALL BEGINS. Each datum BY PROGRAM (the guide's laid-datum.mjs) off the statement by which the dump's own 'gosem.cut.vars' lays the variable. In a bare row this is a premise. The card (YtfdglkiehkilnaaDoorCards.lean) ties it to the program's text. -/
def laid_loop_example_musicengine_impl_stepHalves {H : Type} : DataW H := .agg [.lit (.int .i64 0), .lit (.int .i64 2), .lit (.int .i64 4), .lit (.int .i64 5), .lit (.int .i64 7), .lit (.int .i64 9), .lit (.int .i64 11)]
def laid_loop_example_musicengine_impl_keyAlters {H : Type} : DataW H := .agg [.agg [.lit (.int .i64 (-1)), .lit (.int .i64 (-1)), .lit (.int .i64 (-1)), .lit (.int .i64 (-1)), .lit (.int .i64 (-1)), .lit (.int .i64 (-1)), .lit (.int .i64 (-1))], .agg [.lit (.int .i64 (-1)), .lit (.int .i64 (-1)), .lit (.int .i64 (-1)), .lit (.int .i64 0), .lit (.int .i64 (-1)), .lit (.int .i64 (-1)), .lit (.int .i64 (-1))], .agg [.lit (.int .i64 0), .lit (.int .i64 (-1)), .lit (.int .i64 (-1)), .lit (.int .i64 0), .lit (.int .i64 (-1)), .lit (.int .i64 (-1)), .lit (.int .i64 (-1))], .agg [.lit (.int .i64 0), .lit (.int .i64 (-1)), .lit (.int .i64 (-1)), .lit (.int .i64 0), .lit (.int .i64 0), .lit (.int .i64 (-1)), .lit (.int .i64 (-1))], .agg [.lit (.int .i64 0), .lit (.int .i64 0), .lit (.int .i64 (-1)), .lit (.int .i64 0), .lit (.int .i64 0), .lit (.int .i64 (-1)), .lit (.int .i64 (-1))], .agg [.lit (.int .i64 0), .lit (.int .i64 0), .lit (.int .i64 (-1)), .lit (.int .i64 0), .lit (.int .i64 0), .lit (.int .i64 0), .lit (.int .i64 (-1))], .agg [.lit (.int .i64 0), .lit (.int .i64 0), .lit (.int .i64 0), .lit (.int .i64 0), .lit (.int .i64 0), .lit (.int .i64 0), .lit (.int .i64 (-1))], .agg [.lit (.int .i64 0), .lit (.int .i64 0), .lit (.int .i64 0), .lit (.int .i64 0), .lit (.int .i64 0), .lit (.int .i64 0), .lit (.int .i64 0)], .agg [.lit (.int .i64 0), .lit (.int .i64 0), .lit (.int .i64 0), .lit (.int .i64 1), .lit (.int .i64 0), .lit (.int .i64 0), .lit (.int .i64 0)], .agg [.lit (.int .i64 1), .lit (.int .i64 0), .lit (.int .i64 0), .lit (.int .i64 1), .lit (.int .i64 0), .lit (.int .i64 0), .lit (.int .i64 0)], .agg [.lit (.int .i64 1), .lit (.int .i64 0), .lit (.int .i64 0), .lit (.int .i64 1), .lit (.int .i64 1), .lit (.int .i64 0), .lit (.int .i64 0)], .agg [.lit (.int .i64 1), .lit (.int .i64 1), .lit (.int .i64 0), .lit (.int .i64 1), .lit (.int .i64 1), .lit (.int .i64 0), .lit (.int .i64 0)], .agg [.lit (.int .i64 1), .lit (.int .i64 1), .lit (.int .i64 0), .lit (.int .i64 1), .lit (.int .i64 1), .lit (.int .i64 1), .lit (.int .i64 0)], .agg [.lit (.int .i64 1), .lit (.int .i64 1), .lit (.int .i64 1), .lit (.int .i64 1), .lit (.int .i64 1), .lit (.int .i64 1), .lit (.int .i64 0)], .agg [.lit (.int .i64 1), .lit (.int .i64 1), .lit (.int .i64 1), .lit (.int .i64 1), .lit (.int .i64 1), .lit (.int .i64 1), .lit (.int .i64 1)]]
def laid_loop_example_musicengine_impl_voiceRanges {H : Type} : DataW H := .agg [.agg [.lit (.int .i64 28), .lit (.int .i64 48)], .agg [.lit (.int .i64 36), .lit (.int .i64 55)], .agg [.lit (.int .i64 43), .lit (.int .i64 62)], .agg [.lit (.int .i64 48), .lit (.int .i64 67)]]

/-- 'laws.FnCantusValid': WHATEVER THE INPUT: true; the input reads as it did. -/
def fnCantusValidSpec : ChangeSpec := { name := "fnCantusValid", vars := ["loop.example/musicengine/impl.keyAlters", "loop.example/musicengine/impl.stepHalves"], fn := fun _ => fun
  | [d, g1, g2] => { results := [.lit (.bool true)], args := [d], vars := [g1, g2] }
  | _ => none }
def fnCantusValidRow : OpenClaim := { program := "ytfdglkiehkilnaadoor", sum := "654fc4de62aeeb43cabb214681f1e6e0d77e176e951c5141fa8bfaeac136e94b", func := "loop.example/musicengine/laws.FnCantusValid", spec := "fnCantusValid", named := ["loop.example/musicengine/impl.keyAlters", "loop.example/musicengine/impl.stepHalves"], apart := false, laid := [("loop.example/musicengine/impl.stepHalves", laid_loop_example_musicengine_impl_stepHalves), ("loop.example/musicengine/impl.keyAlters", laid_loop_example_musicengine_impl_keyAlters)] }
def FnCantusValidSaid : Prop := fnCantusValidRow.holds Tryd.pinned (OpenSpec.ofChange fnCantusValidSpec)

/-- ITS FALSE NEIGHBOUR: 'it returns false'. Refute it at one input. -/
def fnCantusValidWrong : ChangeSpec := { name := "fnCantusValid", vars := ["loop.example/musicengine/impl.keyAlters", "loop.example/musicengine/impl.stepHalves"], fn := fun _ => fun
  | [d, g1, g2] => { results := [.lit (.bool false)], args := [d], vars := [g1, g2] }
  | _ => none }
def FnCantusValidWrongFalsely : Prop := fnCantusValidRow.holds Tryd.pinned (OpenSpec.ofChange fnCantusValidWrong)

/-- 'laws.FnLineFaults': WHATEVER THE INPUT: true; the input reads as it did. -/
def fnLineFaultsSpec : ChangeSpec := { name := "fnLineFaults", vars := ["loop.example/musicengine/impl.keyAlters", "loop.example/musicengine/impl.stepHalves"], fn := fun _ => fun
  | [d, g1, g2] => { results := [.lit (.bool true)], args := [d], vars := [g1, g2] }
  | _ => none }
def fnLineFaultsRow : OpenClaim := { program := "ytfdglkiehkilnaadoor", sum := "654fc4de62aeeb43cabb214681f1e6e0d77e176e951c5141fa8bfaeac136e94b", func := "loop.example/musicengine/laws.FnLineFaults", spec := "fnLineFaults", unfollowed := true, recurses := true, named := ["loop.example/musicengine/impl.keyAlters", "loop.example/musicengine/impl.stepHalves"], apart := false, laid := [("loop.example/musicengine/impl.stepHalves", laid_loop_example_musicengine_impl_stepHalves), ("loop.example/musicengine/impl.keyAlters", laid_loop_example_musicengine_impl_keyAlters)] }
def FnLineFaultsSaid : Prop := fnLineFaultsRow.holds Tryd.pinned (OpenSpec.ofChange fnLineFaultsSpec)

/-- ITS FALSE NEIGHBOUR: 'it returns false'. Refute it at one input. -/
def fnLineFaultsWrong : ChangeSpec := { name := "fnLineFaults", vars := ["loop.example/musicengine/impl.keyAlters", "loop.example/musicengine/impl.stepHalves"], fn := fun _ => fun
  | [d, g1, g2] => { results := [.lit (.bool false)], args := [d], vars := [g1, g2] }
  | _ => none }
def FnLineFaultsWrongFalsely : Prop := fnLineFaultsRow.holds Tryd.pinned (OpenSpec.ofChange fnLineFaultsWrong)

/-- 'laws.FnLineGood': WHATEVER THE INPUT: true; the input reads as it did. -/
def fnLineGoodSpec : ChangeSpec := { name := "fnLineGood", vars := ["loop.example/musicengine/impl.keyAlters", "loop.example/musicengine/impl.stepHalves"], fn := fun _ => fun
  | [d, g1, g2] => { results := [.lit (.bool true)], args := [d], vars := [g1, g2] }
  | _ => none }
def fnLineGoodRow : OpenClaim := { program := "ytfdglkiehkilnaadoor", sum := "654fc4de62aeeb43cabb214681f1e6e0d77e176e951c5141fa8bfaeac136e94b", func := "loop.example/musicengine/laws.FnLineGood", spec := "fnLineGood", unfollowed := true, recurses := true, named := ["loop.example/musicengine/impl.keyAlters", "loop.example/musicengine/impl.stepHalves"], apart := false, laid := [("loop.example/musicengine/impl.stepHalves", laid_loop_example_musicengine_impl_stepHalves), ("loop.example/musicengine/impl.keyAlters", laid_loop_example_musicengine_impl_keyAlters)] }
def FnLineGoodSaid : Prop := fnLineGoodRow.holds Tryd.pinned (OpenSpec.ofChange fnLineGoodSpec)

/-- ITS FALSE NEIGHBOUR: 'it returns false'. Refute it at one input. -/
def fnLineGoodWrong : ChangeSpec := { name := "fnLineGood", vars := ["loop.example/musicengine/impl.keyAlters", "loop.example/musicengine/impl.stepHalves"], fn := fun _ => fun
  | [d, g1, g2] => { results := [.lit (.bool false)], args := [d], vars := [g1, g2] }
  | _ => none }
def FnLineGoodWrongFalsely : Prop := fnLineGoodRow.holds Tryd.pinned (OpenSpec.ofChange fnLineGoodWrong)

/-- 'laws.FnExactCantusValid': WHATEVER THE INPUT: true; the input reads as it did. -/
def fnExactCantusValidSpec : ChangeSpec := { name := "fnExactCantusValid", vars := ["loop.example/musicengine/impl.keyAlters"], fn := fun _ => fun
  | [d1, d2, g1] => { results := [.lit (.bool true)], args := [d1, d2], vars := [g1] }
  | _ => none }
def fnExactCantusValidRow : OpenClaim := { program := "ytfdglkiehkilnaadoor", sum := "654fc4de62aeeb43cabb214681f1e6e0d77e176e951c5141fa8bfaeac136e94b", func := "loop.example/musicengine/laws.FnExactCantusValid", spec := "fnExactCantusValid", named := ["loop.example/musicengine/impl.keyAlters"], apart := false, laid := [("loop.example/musicengine/impl.keyAlters", laid_loop_example_musicengine_impl_keyAlters)] }
def FnExactCantusValidSaid : Prop := fnExactCantusValidRow.holds Tryd.pinned (OpenSpec.ofChange fnExactCantusValidSpec)

/-- ITS FALSE NEIGHBOUR: 'it returns false'. Refute it at one input. -/
def fnExactCantusValidWrong : ChangeSpec := { name := "fnExactCantusValid", vars := ["loop.example/musicengine/impl.keyAlters"], fn := fun _ => fun
  | [d1, d2, g1] => { results := [.lit (.bool false)], args := [d1, d2], vars := [g1] }
  | _ => none }
def FnExactCantusValidWrongFalsely : Prop := fnExactCantusValidRow.holds Tryd.pinned (OpenSpec.ofChange fnExactCantusValidWrong)

/-- 'laws.FnExactLineFaults': WHATEVER THE INPUT: true; the input reads as it did. -/
def fnExactLineFaultsSpec : ChangeSpec := { name := "fnExactLineFaults", vars := ["loop.example/musicengine/impl.keyAlters", "loop.example/musicengine/impl.stepHalves"], fn := fun _ => fun
  | [d1, d2, d3, g1, g2] => { results := [.lit (.bool true)], args := [d1, d2, d3], vars := [g1, g2] }
  | _ => none }
def fnExactLineFaultsRow : OpenClaim := { program := "ytfdglkiehkilnaadoor", sum := "654fc4de62aeeb43cabb214681f1e6e0d77e176e951c5141fa8bfaeac136e94b", func := "loop.example/musicengine/laws.FnExactLineFaults", spec := "fnExactLineFaults", unfollowed := true, recurses := true, named := ["loop.example/musicengine/impl.keyAlters", "loop.example/musicengine/impl.stepHalves"], apart := false, laid := [("loop.example/musicengine/impl.stepHalves", laid_loop_example_musicengine_impl_stepHalves), ("loop.example/musicengine/impl.keyAlters", laid_loop_example_musicengine_impl_keyAlters)] }
def FnExactLineFaultsSaid : Prop := fnExactLineFaultsRow.holds Tryd.pinned (OpenSpec.ofChange fnExactLineFaultsSpec)

/-- ITS FALSE NEIGHBOUR: 'it returns false'. Refute it at one input. -/
def fnExactLineFaultsWrong : ChangeSpec := { name := "fnExactLineFaults", vars := ["loop.example/musicengine/impl.keyAlters", "loop.example/musicengine/impl.stepHalves"], fn := fun _ => fun
  | [d1, d2, d3, g1, g2] => { results := [.lit (.bool false)], args := [d1, d2, d3], vars := [g1, g2] }
  | _ => none }
def FnExactLineFaultsWrongFalsely : Prop := fnExactLineFaultsRow.holds Tryd.pinned (OpenSpec.ofChange fnExactLineFaultsWrong)

/-- 'laws.FnExactLineGood': WHATEVER THE INPUT: true; the input reads as it did. -/
def fnExactLineGoodSpec : ChangeSpec := { name := "fnExactLineGood", vars := ["loop.example/musicengine/impl.keyAlters", "loop.example/musicengine/impl.stepHalves"], fn := fun _ => fun
  | [d1, d2, d3, g1, g2] => { results := [.lit (.bool true)], args := [d1, d2, d3], vars := [g1, g2] }
  | _ => none }
def fnExactLineGoodRow : OpenClaim := { program := "ytfdglkiehkilnaadoor", sum := "654fc4de62aeeb43cabb214681f1e6e0d77e176e951c5141fa8bfaeac136e94b", func := "loop.example/musicengine/laws.FnExactLineGood", spec := "fnExactLineGood", unfollowed := true, recurses := true, named := ["loop.example/musicengine/impl.keyAlters", "loop.example/musicengine/impl.stepHalves"], apart := false, laid := [("loop.example/musicengine/impl.stepHalves", laid_loop_example_musicengine_impl_stepHalves), ("loop.example/musicengine/impl.keyAlters", laid_loop_example_musicengine_impl_keyAlters)] }
def FnExactLineGoodSaid : Prop := fnExactLineGoodRow.holds Tryd.pinned (OpenSpec.ofChange fnExactLineGoodSpec)

/-- ITS FALSE NEIGHBOUR: 'it returns false'. Refute it at one input. -/
def fnExactLineGoodWrong : ChangeSpec := { name := "fnExactLineGood", vars := ["loop.example/musicengine/impl.keyAlters", "loop.example/musicengine/impl.stepHalves"], fn := fun _ => fun
  | [d1, d2, d3, g1, g2] => { results := [.lit (.bool false)], args := [d1, d2, d3], vars := [g1, g2] }
  | _ => none }
def FnExactLineGoodWrongFalsely : Prop := fnExactLineGoodRow.holds Tryd.pinned (OpenSpec.ofChange fnExactLineGoodWrong)

/-- 'laws.FnPartsFaults': WHATEVER THE INPUT: true; the input reads as it did. -/
def fnPartsFaultsSpec : ChangeSpec := { name := "fnPartsFaults", vars := ["loop.example/musicengine/impl.stepHalves", "loop.example/musicengine/impl.voiceRanges"], fn := fun _ => fun
  | [d, g1, g2] => { results := [.lit (.bool true)], args := [d], vars := [g1, g2] }
  | _ => none }
def fnPartsFaultsRow : OpenClaim := { program := "ytfdglkiehkilnaadoor", sum := "654fc4de62aeeb43cabb214681f1e6e0d77e176e951c5141fa8bfaeac136e94b", func := "loop.example/musicengine/laws.FnPartsFaults", spec := "fnPartsFaults", named := ["loop.example/musicengine/impl.stepHalves", "loop.example/musicengine/impl.voiceRanges"], apart := false, laid := [("loop.example/musicengine/impl.voiceRanges", laid_loop_example_musicengine_impl_voiceRanges), ("loop.example/musicengine/impl.stepHalves", laid_loop_example_musicengine_impl_stepHalves)] }
def FnPartsFaultsSaid : Prop := fnPartsFaultsRow.holds Tryd.pinned (OpenSpec.ofChange fnPartsFaultsSpec)

/-- ITS FALSE NEIGHBOUR: 'it returns false'. Refute it at one input. -/
def fnPartsFaultsWrong : ChangeSpec := { name := "fnPartsFaults", vars := ["loop.example/musicengine/impl.stepHalves", "loop.example/musicengine/impl.voiceRanges"], fn := fun _ => fun
  | [d, g1, g2] => { results := [.lit (.bool false)], args := [d], vars := [g1, g2] }
  | _ => none }
def FnPartsFaultsWrongFalsely : Prop := fnPartsFaultsRow.holds Tryd.pinned (OpenSpec.ofChange fnPartsFaultsWrong)

/-- 'laws.FnExactPartsFaults': WHATEVER THE INPUT: true; the input reads as it did. -/
def fnExactPartsFaultsSpec : ChangeSpec := { name := "fnExactPartsFaults", vars := ["loop.example/musicengine/impl.stepHalves", "loop.example/musicengine/impl.voiceRanges"], fn := fun _ => fun
  | [d, g1, g2] => { results := [.lit (.bool true)], args := [d], vars := [g1, g2] }
  | _ => none }
def fnExactPartsFaultsRow : OpenClaim := { program := "ytfdglkiehkilnaadoor", sum := "654fc4de62aeeb43cabb214681f1e6e0d77e176e951c5141fa8bfaeac136e94b", func := "loop.example/musicengine/laws.FnExactPartsFaults", spec := "fnExactPartsFaults", named := ["loop.example/musicengine/impl.stepHalves", "loop.example/musicengine/impl.voiceRanges"], apart := false, laid := [("loop.example/musicengine/impl.voiceRanges", laid_loop_example_musicengine_impl_voiceRanges), ("loop.example/musicengine/impl.stepHalves", laid_loop_example_musicengine_impl_stepHalves)] }
def FnExactPartsFaultsSaid : Prop := fnExactPartsFaultsRow.holds Tryd.pinned (OpenSpec.ofChange fnExactPartsFaultsSpec)

/-- ITS FALSE NEIGHBOUR: 'it returns false'. Refute it at one input. -/
def fnExactPartsFaultsWrong : ChangeSpec := { name := "fnExactPartsFaults", vars := ["loop.example/musicengine/impl.stepHalves", "loop.example/musicengine/impl.voiceRanges"], fn := fun _ => fun
  | [d, g1, g2] => { results := [.lit (.bool false)], args := [d], vars := [g1, g2] }
  | _ => none }
def FnExactPartsFaultsWrongFalsely : Prop := fnExactPartsFaultsRow.holds Tryd.pinned (OpenSpec.ofChange fnExactPartsFaultsWrong)

/-- 'laws.FnRealizeBass': WHATEVER THE INPUT: true; the input reads as it did. -/
def fnRealizeBassSpec : ChangeSpec := { name := "fnRealizeBass", vars := ["loop.example/musicengine/impl.keyAlters", "loop.example/musicengine/impl.voiceRanges", "loop.example/musicengine/impl.stepHalves"], fn := fun _ => fun
  | [d, g1, g2, g3] => { results := [.lit (.bool true)], args := [d], vars := [g1, g2, g3] }
  | _ => none }
def fnRealizeBassRow : OpenClaim := { program := "ytfdglkiehkilnaadoor", sum := "654fc4de62aeeb43cabb214681f1e6e0d77e176e951c5141fa8bfaeac136e94b", func := "loop.example/musicengine/laws.FnRealizeBass", spec := "fnRealizeBass", unfollowed := true, recurses := true, named := ["loop.example/musicengine/impl.keyAlters", "loop.example/musicengine/impl.voiceRanges", "loop.example/musicengine/impl.stepHalves"], apart := false, laid := [("loop.example/musicengine/impl.voiceRanges", laid_loop_example_musicengine_impl_voiceRanges), ("loop.example/musicengine/impl.stepHalves", laid_loop_example_musicengine_impl_stepHalves), ("loop.example/musicengine/impl.keyAlters", laid_loop_example_musicengine_impl_keyAlters)] }
def FnRealizeBassSaid : Prop := fnRealizeBassRow.holds Tryd.pinned (OpenSpec.ofChange fnRealizeBassSpec)

/-- ITS FALSE NEIGHBOUR: 'it returns false'. Refute it at one input. -/
def fnRealizeBassWrong : ChangeSpec := { name := "fnRealizeBass", vars := ["loop.example/musicengine/impl.keyAlters", "loop.example/musicengine/impl.voiceRanges", "loop.example/musicengine/impl.stepHalves"], fn := fun _ => fun
  | [d, g1, g2, g3] => { results := [.lit (.bool false)], args := [d], vars := [g1, g2, g3] }
  | _ => none }
def FnRealizeBassWrongFalsely : Prop := fnRealizeBassRow.holds Tryd.pinned (OpenSpec.ofChange fnRealizeBassWrong)

/- THE SECOND FORM. 'bulk': how many values and letters a reading holds, each counted each time it is reached (what is shared counts as often as it is met; a slice's spare places count too). A statement '..UptoSaid' is the law's where the arguments, and the package variables that the reading takes, are together of bulk at most 1048576: NARROWER than '..Said'. Prove '..Said' where nothing that the law and all that it calls make is longer than what came in: it says more and counts as full. Else prove '..UptoSaid'. A law counts once. -/
mutual
def uptoBulk {H : Type} : DataW H → Nat
  | .lit (.string bytes) => bytes.length + 1
  | .lit _ => 1
  | .nil => 1
  | .ptr d => uptoBulk d + 1
  | .slice elems spare => uptoBulkAll elems + uptoBulkAll spare + 1
  | .agg parts => uptoBulkAll parts + 1
  | .iface _ d => uptoBulk d + 1
  | .map entries => uptoBulkEntries entries + 1
  | .held _ => 1
def uptoBulkAll {H : Type} : List (DataW H) → Nat
  | [] => 0
  | d :: r => uptoBulk d + uptoBulkAll r
def uptoBulkEntries {H : Type} : List (Lit × DataW H) → Nat
  | [] => 0
  | x :: r => uptoBulkEntry x + uptoBulkEntries r
def uptoBulkEntry {H : Type} : Lit × DataW H → Nat
  | (.string bytes, d) => bytes.length + uptoBulk d + 1
  | (_, d) => uptoBulk d + 1
 end
def uptoSmall : (H : Type) → List (DataW H) → Bool := fun _ ds => decide (uptoBulkAll ds ≤ 1048576)
def OpenSpec.upto (s : _root_.Go.ChangeSpec) : _root_.Go.OpenSpec := { _root_.Go.OpenSpec.ofChange s with cond := some uptoSmall }

/-- 'laws.FnCantusValid', WHERE WHAT IT READS IS OF BULK AT MOST 1048576: true; the input reads as it did. -/
def fnCantusValidUptoRow : OpenClaim := { program := "ytfdglkiehkilnaadoor", sum := "654fc4de62aeeb43cabb214681f1e6e0d77e176e951c5141fa8bfaeac136e94b", func := "loop.example/musicengine/laws.FnCantusValid", spec := "fnCantusValid", named := ["loop.example/musicengine/impl.keyAlters", "loop.example/musicengine/impl.stepHalves"], apart := false, laid := [("loop.example/musicengine/impl.stepHalves", laid_loop_example_musicengine_impl_stepHalves), ("loop.example/musicengine/impl.keyAlters", laid_loop_example_musicengine_impl_keyAlters)], narrowed := true }
def FnCantusValidUptoSaid : Prop := fnCantusValidUptoRow.holds Tryd.pinned (OpenSpec.upto fnCantusValidSpec)

/-- 'laws.FnLineFaults', WHERE WHAT IT READS IS OF BULK AT MOST 1048576: true; the input reads as it did. -/
def fnLineFaultsUptoRow : OpenClaim := { program := "ytfdglkiehkilnaadoor", sum := "654fc4de62aeeb43cabb214681f1e6e0d77e176e951c5141fa8bfaeac136e94b", func := "loop.example/musicengine/laws.FnLineFaults", spec := "fnLineFaults", unfollowed := true, recurses := true, named := ["loop.example/musicengine/impl.keyAlters", "loop.example/musicengine/impl.stepHalves"], apart := false, laid := [("loop.example/musicengine/impl.stepHalves", laid_loop_example_musicengine_impl_stepHalves), ("loop.example/musicengine/impl.keyAlters", laid_loop_example_musicengine_impl_keyAlters)], narrowed := true }
def FnLineFaultsUptoSaid : Prop := fnLineFaultsUptoRow.holds Tryd.pinned (OpenSpec.upto fnLineFaultsSpec)

/-- 'laws.FnLineGood', WHERE WHAT IT READS IS OF BULK AT MOST 1048576: true; the input reads as it did. -/
def fnLineGoodUptoRow : OpenClaim := { program := "ytfdglkiehkilnaadoor", sum := "654fc4de62aeeb43cabb214681f1e6e0d77e176e951c5141fa8bfaeac136e94b", func := "loop.example/musicengine/laws.FnLineGood", spec := "fnLineGood", unfollowed := true, recurses := true, named := ["loop.example/musicengine/impl.keyAlters", "loop.example/musicengine/impl.stepHalves"], apart := false, laid := [("loop.example/musicengine/impl.stepHalves", laid_loop_example_musicengine_impl_stepHalves), ("loop.example/musicengine/impl.keyAlters", laid_loop_example_musicengine_impl_keyAlters)], narrowed := true }
def FnLineGoodUptoSaid : Prop := fnLineGoodUptoRow.holds Tryd.pinned (OpenSpec.upto fnLineGoodSpec)

/-- 'laws.FnExactCantusValid', WHERE WHAT IT READS IS OF BULK AT MOST 1048576: true; the input reads as it did. -/
def fnExactCantusValidUptoRow : OpenClaim := { program := "ytfdglkiehkilnaadoor", sum := "654fc4de62aeeb43cabb214681f1e6e0d77e176e951c5141fa8bfaeac136e94b", func := "loop.example/musicengine/laws.FnExactCantusValid", spec := "fnExactCantusValid", named := ["loop.example/musicengine/impl.keyAlters"], apart := false, laid := [("loop.example/musicengine/impl.keyAlters", laid_loop_example_musicengine_impl_keyAlters)], narrowed := true }
def FnExactCantusValidUptoSaid : Prop := fnExactCantusValidUptoRow.holds Tryd.pinned (OpenSpec.upto fnExactCantusValidSpec)

/-- 'laws.FnExactLineFaults', WHERE WHAT IT READS IS OF BULK AT MOST 1048576: true; the input reads as it did. -/
def fnExactLineFaultsUptoRow : OpenClaim := { program := "ytfdglkiehkilnaadoor", sum := "654fc4de62aeeb43cabb214681f1e6e0d77e176e951c5141fa8bfaeac136e94b", func := "loop.example/musicengine/laws.FnExactLineFaults", spec := "fnExactLineFaults", unfollowed := true, recurses := true, named := ["loop.example/musicengine/impl.keyAlters", "loop.example/musicengine/impl.stepHalves"], apart := false, laid := [("loop.example/musicengine/impl.stepHalves", laid_loop_example_musicengine_impl_stepHalves), ("loop.example/musicengine/impl.keyAlters", laid_loop_example_musicengine_impl_keyAlters)], narrowed := true }
def FnExactLineFaultsUptoSaid : Prop := fnExactLineFaultsUptoRow.holds Tryd.pinned (OpenSpec.upto fnExactLineFaultsSpec)

/-- 'laws.FnExactLineGood', WHERE WHAT IT READS IS OF BULK AT MOST 1048576: true; the input reads as it did. -/
def fnExactLineGoodUptoRow : OpenClaim := { program := "ytfdglkiehkilnaadoor", sum := "654fc4de62aeeb43cabb214681f1e6e0d77e176e951c5141fa8bfaeac136e94b", func := "loop.example/musicengine/laws.FnExactLineGood", spec := "fnExactLineGood", unfollowed := true, recurses := true, named := ["loop.example/musicengine/impl.keyAlters", "loop.example/musicengine/impl.stepHalves"], apart := false, laid := [("loop.example/musicengine/impl.stepHalves", laid_loop_example_musicengine_impl_stepHalves), ("loop.example/musicengine/impl.keyAlters", laid_loop_example_musicengine_impl_keyAlters)], narrowed := true }
def FnExactLineGoodUptoSaid : Prop := fnExactLineGoodUptoRow.holds Tryd.pinned (OpenSpec.upto fnExactLineGoodSpec)

/-- 'laws.FnPartsFaults', WHERE WHAT IT READS IS OF BULK AT MOST 1048576: true; the input reads as it did. -/
def fnPartsFaultsUptoRow : OpenClaim := { program := "ytfdglkiehkilnaadoor", sum := "654fc4de62aeeb43cabb214681f1e6e0d77e176e951c5141fa8bfaeac136e94b", func := "loop.example/musicengine/laws.FnPartsFaults", spec := "fnPartsFaults", named := ["loop.example/musicengine/impl.stepHalves", "loop.example/musicengine/impl.voiceRanges"], apart := false, laid := [("loop.example/musicengine/impl.voiceRanges", laid_loop_example_musicengine_impl_voiceRanges), ("loop.example/musicengine/impl.stepHalves", laid_loop_example_musicengine_impl_stepHalves)], narrowed := true }
def FnPartsFaultsUptoSaid : Prop := fnPartsFaultsUptoRow.holds Tryd.pinned (OpenSpec.upto fnPartsFaultsSpec)

/-- 'laws.FnExactPartsFaults', WHERE WHAT IT READS IS OF BULK AT MOST 1048576: true; the input reads as it did. -/
def fnExactPartsFaultsUptoRow : OpenClaim := { program := "ytfdglkiehkilnaadoor", sum := "654fc4de62aeeb43cabb214681f1e6e0d77e176e951c5141fa8bfaeac136e94b", func := "loop.example/musicengine/laws.FnExactPartsFaults", spec := "fnExactPartsFaults", named := ["loop.example/musicengine/impl.stepHalves", "loop.example/musicengine/impl.voiceRanges"], apart := false, laid := [("loop.example/musicengine/impl.voiceRanges", laid_loop_example_musicengine_impl_voiceRanges), ("loop.example/musicengine/impl.stepHalves", laid_loop_example_musicengine_impl_stepHalves)], narrowed := true }
def FnExactPartsFaultsUptoSaid : Prop := fnExactPartsFaultsUptoRow.holds Tryd.pinned (OpenSpec.upto fnExactPartsFaultsSpec)

/-- 'laws.FnRealizeBass', WHERE WHAT IT READS IS OF BULK AT MOST 1048576: true; the input reads as it did. -/
def fnRealizeBassUptoRow : OpenClaim := { program := "ytfdglkiehkilnaadoor", sum := "654fc4de62aeeb43cabb214681f1e6e0d77e176e951c5141fa8bfaeac136e94b", func := "loop.example/musicengine/laws.FnRealizeBass", spec := "fnRealizeBass", unfollowed := true, recurses := true, named := ["loop.example/musicengine/impl.keyAlters", "loop.example/musicengine/impl.voiceRanges", "loop.example/musicengine/impl.stepHalves"], apart := false, laid := [("loop.example/musicengine/impl.voiceRanges", laid_loop_example_musicengine_impl_voiceRanges), ("loop.example/musicengine/impl.stepHalves", laid_loop_example_musicengine_impl_stepHalves), ("loop.example/musicengine/impl.keyAlters", laid_loop_example_musicengine_impl_keyAlters)], narrowed := true }
def FnRealizeBassUptoSaid : Prop := fnRealizeBassUptoRow.holds Tryd.pinned (OpenSpec.upto fnRealizeBassSpec)

end Rows
end Go.Proofs.YtfdglkiehkilnaaDoor
