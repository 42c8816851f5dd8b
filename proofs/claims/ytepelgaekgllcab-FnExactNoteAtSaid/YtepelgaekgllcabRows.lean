/-
  No cell of these rows narrows 'for every input' (looked for: loops, veiled, ifaces, maps, wideKeys, modest, calm, conditions, laid).
  DERIVED. THE GIVEN ROWS OF THIS SEAT. 3 by the template 'for every input the law returns true; each argument reads behind the call as it read before'; 0 by the template 'total and deterministic' (their statements: YtepelgaekgllcabTotals.lean).
  GIVEN WITH THE SEED: the statements are not yours to turn. If you find one false, say at which input.
  Laid BY PROGRAM, IN A SANDBOX (cutbox-rows.mjs): the forced cells as the released guide's own fill.sh prints them over the translation 0064547502369517… (all of the seat's roots in one cut). By AI agents, Wed Nov 11 2026. No macro, syntax, notation, axiom, sorry.
-/
import Derived.Test.YtepelgaekgllcabChecked
import GoSem.Claim
import GoSem.ClaimJoined
import GoSem.ClaimMapViews
import Derived.JoinedTies
import Derived.KernelRfl
namespace Go.Proofs.Ytepelgaekgllcab
/- THE CELL 'sum', in the pinned program and in every row, IS THE sha256 OF THE DUMP (.gsa) THAT YtepelgaekgllcabProg.lean LOADS. Nothing in Lean hashes anything: it is a label: what it is worth is what the hold of that sum in a sandbox is worth. -/
noncomputable def Try.pinned : Pinned := { name := "ytepelgaekgllcab", sum := "00645475023695170bb18019c813d41d317af9897f057384b26be5936cd44c66", checked := Try.checked }
namespace Rows
def none {H : Type} : Left H := { results := [], args := [] }

/-- 'laws.FnExactNoteAt': WHATEVER THE INPUT: true; the input reads as it did. -/
def fnExactNoteAtSpec : ChangeSpec := { name := "fnExactNoteAt", fn := fun _ => fun
  | [d1, d2] => { results := [.lit (.bool true)], args := [d1, d2] }
  | _ => none }
def fnExactNoteAtRow : OpenClaim := { program := "ytepelgaekgllcab", sum := "00645475023695170bb18019c813d41d317af9897f057384b26be5936cd44c66", func := "loop.example/musicengine/laws.FnExactNoteAt", spec := "fnExactNoteAt", apart := false }
def FnExactNoteAtSaid : Prop := fnExactNoteAtRow.holds Try.pinned (OpenSpec.ofChange fnExactNoteAtSpec)

/-- ITS FALSE NEIGHBOUR: 'it returns false'. Refute it at one input. -/
def fnExactNoteAtWrong : ChangeSpec := { name := "fnExactNoteAt", fn := fun _ => fun
  | [d1, d2] => { results := [.lit (.bool false)], args := [d1, d2] }
  | _ => none }
def FnExactNoteAtWrongFalsely : Prop := fnExactNoteAtRow.holds Try.pinned (OpenSpec.ofChange fnExactNoteAtWrong)

/-- 'laws.FnExactJoinTies': WHATEVER THE INPUT: true; the input reads as it did. -/
def fnExactJoinTiesSpec : ChangeSpec := { name := "fnExactJoinTies", fn := fun _ => fun
  | [d] => { results := [.lit (.bool true)], args := [d] }
  | _ => none }
def fnExactJoinTiesRow : OpenClaim := { program := "ytepelgaekgllcab", sum := "00645475023695170bb18019c813d41d317af9897f057384b26be5936cd44c66", func := "loop.example/musicengine/laws.FnExactJoinTies", spec := "fnExactJoinTies", apart := false }
def FnExactJoinTiesSaid : Prop := fnExactJoinTiesRow.holds Try.pinned (OpenSpec.ofChange fnExactJoinTiesSpec)

/-- ITS FALSE NEIGHBOUR: 'it returns false'. Refute it at one input. -/
def fnExactJoinTiesWrong : ChangeSpec := { name := "fnExactJoinTies", fn := fun _ => fun
  | [d] => { results := [.lit (.bool false)], args := [d] }
  | _ => none }
def FnExactJoinTiesWrongFalsely : Prop := fnExactJoinTiesRow.holds Try.pinned (OpenSpec.ofChange fnExactJoinTiesWrong)

/-- 'laws.FnExactTurnVoice': WHATEVER THE INPUT: true; the input reads as it did. -/
def fnExactTurnVoiceSpec : ChangeSpec := { name := "fnExactTurnVoice", fn := fun _ => fun
  | [d] => { results := [.lit (.bool true)], args := [d] }
  | _ => none }
def fnExactTurnVoiceRow : OpenClaim := { program := "ytepelgaekgllcab", sum := "00645475023695170bb18019c813d41d317af9897f057384b26be5936cd44c66", func := "loop.example/musicengine/laws.FnExactTurnVoice", spec := "fnExactTurnVoice", apart := false }
def FnExactTurnVoiceSaid : Prop := fnExactTurnVoiceRow.holds Try.pinned (OpenSpec.ofChange fnExactTurnVoiceSpec)

/-- ITS FALSE NEIGHBOUR: 'it returns false'. Refute it at one input. -/
def fnExactTurnVoiceWrong : ChangeSpec := { name := "fnExactTurnVoice", fn := fun _ => fun
  | [d] => { results := [.lit (.bool false)], args := [d] }
  | _ => none }
def FnExactTurnVoiceWrongFalsely : Prop := fnExactTurnVoiceRow.holds Try.pinned (OpenSpec.ofChange fnExactTurnVoiceWrong)

/- THE SECOND FORM. 'bulk': how many values and letters a reading holds, each counted each time it is reached (what is shared counts as often as it is met; a slice's spare places count too). A statement '..UptoSaid' is the law's where the arguments, and the package variables that the reading takes, are together of bulk at most 1048576: NARROWER than '..Said'. Prove '..Said' where nothing that the law and all that it calls make is longer than what came in: it says more and counts as full. Else prove '..UptoSaid'. A law counts once. -/
mutual
def uptoBulk {H : Type} : DataW H → Nat
  | .lit (.string bytes) => bytes.length + 1
  | .lit _ => 1
  | .nil => 1
  | .ptr d => uptoBulk d + 1
  | .slice elems spare => uptoBulkAll elems + uptoBulkAll spare + 1
  | .agg parts => uptoBulkAll parts + 1
  | .iface _ d => uptoBulk d + 1
  | .map entries => uptoBulkEntries entries + 1
  | .held _ => 1
def uptoBulkAll {H : Type} : List (DataW H) → Nat
  | [] => 0
  | d :: r => uptoBulk d + uptoBulkAll r
def uptoBulkEntries {H : Type} : List (Lit × DataW H) → Nat
  | [] => 0
  | x :: r => uptoBulkEntry x + uptoBulkEntries r
def uptoBulkEntry {H : Type} : Lit × DataW H → Nat
  | (.string bytes, d) => bytes.length + uptoBulk d + 1
  | (_, d) => uptoBulk d + 1
 end
def uptoSmall : (H : Type) → List (DataW H) → Bool := fun _ ds => decide (uptoBulkAll ds ≤ 1048576)
def OpenSpec.upto (s : _root_.Go.ChangeSpec) : _root_.Go.OpenSpec := { _root_.Go.OpenSpec.ofChange s with cond := some uptoSmall }

/-- 'laws.FnExactNoteAt', WHERE WHAT IT READS IS OF BULK AT MOST 1048576: true; the input reads as it did. -/
def fnExactNoteAtUptoRow : OpenClaim := { program := "ytepelgaekgllcab", sum := "00645475023695170bb18019c813d41d317af9897f057384b26be5936cd44c66", func := "loop.example/musicengine/laws.FnExactNoteAt", spec := "fnExactNoteAt", apart := false, narrowed := true }
def FnExactNoteAtUptoSaid : Prop := fnExactNoteAtUptoRow.holds Try.pinned (OpenSpec.upto fnExactNoteAtSpec)

/-- 'laws.FnExactJoinTies', WHERE WHAT IT READS IS OF BULK AT MOST 1048576: true; the input reads as it did. -/
def fnExactJoinTiesUptoRow : OpenClaim := { program := "ytepelgaekgllcab", sum := "00645475023695170bb18019c813d41d317af9897f057384b26be5936cd44c66", func := "loop.example/musicengine/laws.FnExactJoinTies", spec := "fnExactJoinTies", apart := false, narrowed := true }
def FnExactJoinTiesUptoSaid : Prop := fnExactJoinTiesUptoRow.holds Try.pinned (OpenSpec.upto fnExactJoinTiesSpec)

/-- 'laws.FnExactTurnVoice', WHERE WHAT IT READS IS OF BULK AT MOST 1048576: true; the input reads as it did. -/
def fnExactTurnVoiceUptoRow : OpenClaim := { program := "ytepelgaekgllcab", sum := "00645475023695170bb18019c813d41d317af9897f057384b26be5936cd44c66", func := "loop.example/musicengine/laws.FnExactTurnVoice", spec := "fnExactTurnVoice", apart := false, narrowed := true }
def FnExactTurnVoiceUptoSaid : Prop := fnExactTurnVoiceUptoRow.holds Try.pinned (OpenSpec.upto fnExactTurnVoiceSpec)

end Rows
end Go.Proofs.Ytepelgaekgllcab
