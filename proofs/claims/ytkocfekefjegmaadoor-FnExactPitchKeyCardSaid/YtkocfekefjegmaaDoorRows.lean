/-
  NARROWER THAN 'FOR EVERY INPUT', by the rows' own cells (each row's printed sentence says how): FnExactPitchKey: laid · FnPitchKey: laid · FnSpellKey: laid.
  DERIVED. THE GIVEN ROWS OF THIS SEAT. 3 by the template 'for every input the law returns true; each argument reads behind the call as it read before'; 0 by the template 'total and deterministic' (their statements: YtkocfekefjegmaaDoorTotals.lean).
  GIVEN WITH THE SEED: the statements are not yours to turn. If you find one false, say at which input.
  Laid BY PROGRAM, IN A SANDBOX (cutbox-rows.mjs): the forced cells as the released guide's own fill.sh prints them over the translation 630e8ef147ce6f54… (all of the seat's roots in one cut). By AI agents, Wed Nov 11 2026. No macro, syntax, notation, axiom, sorry.
-/
import Derived.Test.YtkocfekefjegmaaDoorChecked
import GoSem.Claim
import GoSem.ClaimJoined
import GoSem.ClaimMapViews
import Derived.JoinedTies
import Derived.KernelRfl
namespace Go.Proofs.YtkocfekefjegmaaDoor
/- THE CELL 'sum', in the pinned program and in every row, IS THE sha256 OF THE DUMP (.gsa) THAT YtkocfekefjegmaaDoorProg.lean LOADS. Nothing in Lean hashes anything: it is a label: what it is worth is what the hold of that sum in a sandbox is worth. -/
noncomputable def Tryd.pinned : Pinned := { name := "ytkocfekefjegmaadoor", sum := "630e8ef147ce6f546fd6955a0598cda73fd326a93b84c298fbe812f50ac07151", checked := Tryd.checked }
namespace Rows
def none {H : Type} : Left H := { results := [], args := [] }

/- WHAT THE LISTED PACKAGE-LEVEL VARIABLES READ AS WHEN THE CALL BEGINS. Each datum BY PROGRAM (the guide's laid-datum.mjs) off the statement by which the dump's own 'gosem.cut.vars' lays the variable. In a bare row this is a premise. The card (YtkocfekefjegmaaDoorCards.lean) ties it to the program's text. -/
def laid_loop_example_musicengine_impl_stepHalves {H : Type} : DataW H := .agg [.lit (.int .i64 0), .lit (.int .i64 2), .lit (.int .i64 4), .lit (.int .i64 5), .lit (.int .i64 7), .lit (.int .i64 9), .lit (.int .i64 11)]

/-- 'laws.FnExactPitchKey': WHATEVER THE INPUT: true; the input reads as it did. -/
def fnExactPitchKeySpec : ChangeSpec := { name := "fnExactPitchKey", vars := ["loop.example/musicengine/impl.stepHalves"], fn := fun _ => fun
  | [d, g1] => { results := [.lit (.bool true)], args := [d], vars := [g1] }
  | _ => none }
def fnExactPitchKeyRow : OpenClaim := { program := "ytkocfekefjegmaadoor", sum := "630e8ef147ce6f546fd6955a0598cda73fd326a93b84c298fbe812f50ac07151", func := "loop.example/musicengine/laws.FnExactPitchKey", spec := "fnExactPitchKey", named := ["loop.example/musicengine/impl.stepHalves"], apart := false, laid := [("loop.example/musicengine/impl.stepHalves", laid_loop_example_musicengine_impl_stepHalves)] }
def FnExactPitchKeySaid : Prop := fnExactPitchKeyRow.holds Tryd.pinned (OpenSpec.ofChange fnExactPitchKeySpec)

/-- ITS FALSE NEIGHBOUR: 'it returns false'. Refute it at one input. -/
def fnExactPitchKeyWrong : ChangeSpec := { name := "fnExactPitchKey", vars := ["loop.example/musicengine/impl.stepHalves"], fn := fun _ => fun
  | [d, g1] => { results := [.lit (.bool false)], args := [d], vars := [g1] }
  | _ => none }
def FnExactPitchKeyWrongFalsely : Prop := fnExactPitchKeyRow.holds Tryd.pinned (OpenSpec.ofChange fnExactPitchKeyWrong)

/-- 'laws.FnPitchKey': WHATEVER THE INPUT: true; the input reads as it did. -/
def fnPitchKeySpec : ChangeSpec := { name := "fnPitchKey", vars := ["loop.example/musicengine/impl.stepHalves"], fn := fun _ => fun
  | [d, g1] => { results := [.lit (.bool true)], args := [d], vars := [g1] }
  | _ => none }
def fnPitchKeyRow : OpenClaim := { program := "ytkocfekefjegmaadoor", sum := "630e8ef147ce6f546fd6955a0598cda73fd326a93b84c298fbe812f50ac07151", func := "loop.example/musicengine/laws.FnPitchKey", spec := "fnPitchKey", named := ["loop.example/musicengine/impl.stepHalves"], apart := false, laid := [("loop.example/musicengine/impl.stepHalves", laid_loop_example_musicengine_impl_stepHalves)] }
def FnPitchKeySaid : Prop := fnPitchKeyRow.holds Tryd.pinned (OpenSpec.ofChange fnPitchKeySpec)

/-- ITS FALSE NEIGHBOUR: 'it returns false'. Refute it at one input. -/
def fnPitchKeyWrong : ChangeSpec := { name := "fnPitchKey", vars := ["loop.example/musicengine/impl.stepHalves"], fn := fun _ => fun
  | [d, g1] => { results := [.lit (.bool false)], args := [d], vars := [g1] }
  | _ => none }
def FnPitchKeyWrongFalsely : Prop := fnPitchKeyRow.holds Tryd.pinned (OpenSpec.ofChange fnPitchKeyWrong)

/-- 'laws.FnSpellKey': WHATEVER THE INPUT: true; the input reads as it did. -/
def fnSpellKeySpec : ChangeSpec := { name := "fnSpellKey", vars := ["loop.example/musicengine/impl.stepHalves"], fn := fun _ => fun
  | [d, g1] => { results := [.lit (.bool true)], args := [d], vars := [g1] }
  | _ => none }
def fnSpellKeyRow : OpenClaim := { program := "ytkocfekefjegmaadoor", sum := "630e8ef147ce6f546fd6955a0598cda73fd326a93b84c298fbe812f50ac07151", func := "loop.example/musicengine/laws.FnSpellKey", spec := "fnSpellKey", named := ["loop.example/musicengine/impl.stepHalves"], apart := false, laid := [("loop.example/musicengine/impl.stepHalves", laid_loop_example_musicengine_impl_stepHalves)] }
def FnSpellKeySaid : Prop := fnSpellKeyRow.holds Tryd.pinned (OpenSpec.ofChange fnSpellKeySpec)

/-- ITS FALSE NEIGHBOUR: 'it returns false'. Refute it at one input. -/
def fnSpellKeyWrong : ChangeSpec := { name := "fnSpellKey", vars := ["loop.example/musicengine/impl.stepHalves"], fn := fun _ => fun
  | [d, g1] => { results := [.lit (.bool false)], args := [d], vars := [g1] }
  | _ => none }
def FnSpellKeyWrongFalsely : Prop := fnSpellKeyRow.holds Tryd.pinned (OpenSpec.ofChange fnSpellKeyWrong)

/- THE SECOND FORM. 'bulk': how many values and letters a reading holds, each counted each time it is reached (what is shared counts as often as it is met; a slice's spare places count too). A statement '..UptoSaid' is the law's where the arguments, and the package variables that the reading takes, are together of bulk at most 1048576: NARROWER than '..Said'. Prove '..Said' where nothing that the law and all that it calls make is longer than what came in: it says more and counts as full. Else prove '..UptoSaid'. A law counts once. -/
mutual
def uptoBulk {H : Type} : DataW H → Nat
  | .lit (.string bytes) => bytes.length + 1
  | .lit _ => 1
  | .nil => 1
  | .ptr d => uptoBulk d + 1
  | .slice elems spare => uptoBulkAll elems + uptoBulkAll spare + 1
  | .agg parts => uptoBulkAll parts + 1
  | .iface _ d => uptoBulk d + 1
  | .map entries => uptoBulkEntries entries + 1
  | .held _ => 1
def uptoBulkAll {H : Type} : List (DataW H) → Nat
  | [] => 0
  | d :: r => uptoBulk d + uptoBulkAll r
def uptoBulkEntries {H : Type} : List (Lit × DataW H) → Nat
  | [] => 0
  | x :: r => uptoBulkEntry x + uptoBulkEntries r
def uptoBulkEntry {H : Type} : Lit × DataW H → Nat
  | (.string bytes, d) => bytes.length + uptoBulk d + 1
  | (_, d) => uptoBulk d + 1
 end
def uptoSmall : (H : Type) → List (DataW H) → Bool := fun _ ds => decide (uptoBulkAll ds ≤ 1048576)
def OpenSpec.upto (s : _root_.Go.ChangeSpec) : _root_.Go.OpenSpec := { _root_.Go.OpenSpec.ofChange s with cond := some uptoSmall }

/-- 'laws.FnExactPitchKey', WHERE WHAT IT READS IS OF BULK AT MOST 1048576: true; the input reads as it did. -/
def fnExactPitchKeyUptoRow : OpenClaim := { program := "ytkocfekefjegmaadoor", sum := "630e8ef147ce6f546fd6955a0598cda73fd326a93b84c298fbe812f50ac07151", func := "loop.example/musicengine/laws.FnExactPitchKey", spec := "fnExactPitchKey", named := ["loop.example/musicengine/impl.stepHalves"], apart := false, laid := [("loop.example/musicengine/impl.stepHalves", laid_loop_example_musicengine_impl_stepHalves)], narrowed := true }
def FnExactPitchKeyUptoSaid : Prop := fnExactPitchKeyUptoRow.holds Tryd.pinned (OpenSpec.upto fnExactPitchKeySpec)

/-- 'laws.FnPitchKey', WHERE WHAT IT READS IS OF BULK AT MOST 1048576: true; the input reads as it did. -/
def fnPitchKeyUptoRow : OpenClaim := { program := "ytkocfekefjegmaadoor", sum := "630e8ef147ce6f546fd6955a0598cda73fd326a93b84c298fbe812f50ac07151", func := "loop.example/musicengine/laws.FnPitchKey", spec := "fnPitchKey", named := ["loop.example/musicengine/impl.stepHalves"], apart := false, laid := [("loop.example/musicengine/impl.stepHalves", laid_loop_example_musicengine_impl_stepHalves)], narrowed := true }
def FnPitchKeyUptoSaid : Prop := fnPitchKeyUptoRow.holds Tryd.pinned (OpenSpec.upto fnPitchKeySpec)

/-- 'laws.FnSpellKey', WHERE WHAT IT READS IS OF BULK AT MOST 1048576: true; the input reads as it did. -/
def fnSpellKeyUptoRow : OpenClaim := { program := "ytkocfekefjegmaadoor", sum := "630e8ef147ce6f546fd6955a0598cda73fd326a93b84c298fbe812f50ac07151", func := "loop.example/musicengine/laws.FnSpellKey", spec := "fnSpellKey", named := ["loop.example/musicengine/impl.stepHalves"], apart := false, laid := [("loop.example/musicengine/impl.stepHalves", laid_loop_example_musicengine_impl_stepHalves)], narrowed := true }
def FnSpellKeyUptoSaid : Prop := fnSpellKeyUptoRow.holds Tryd.pinned (OpenSpec.upto fnSpellKeySpec)

end Rows
end Go.Proofs.YtkocfekefjegmaaDoor
